/-
  Products by the exact places; math.IsInf.
-/
import Derived.Test.YtbljgmipfclcoabDoorPu7
import Derived.Test.YtbljgmipfclcoabDoorRtz
import Derived.Test.YtbljgmipfclcoabDoorSgn
namespace Go.Proofs.YtbljgmipfclcoabDoor
open Flo Go.RowKit

def infB (n : Nat) : Bool := decide (n % 9223372036854775808 = 9218868437227405312)
set_option maxHeartbeats 400000 in
theorem isInf_c (n : Nat) (w : World) (h : n < 18446744073709551616) :
    Calls Tryd.prog 9 #[.float .f64 n, .int .i64 0] w fun e w' => e = .returned (.bool (infB n)) ∧ w = w' := by
  have ha := abs_c n w h
  have hs : sz n < 9223372036854775808 := sz_lt n
  have ho : Hid ((FloatKind.f64.format.order (sz n) 9218868437227405311 == some .gt) = infB n) := (by
    have e := Flo.gt_iff (sz n) 9218868437227405311 (by omega) (by decide)
    change (FloatKind.f64.format.order (sz n) 9218868437227405311 == some .gt) = _ at e
    rw [e]
    have hb : nanB 9218868437227405311 = false := by decide
    rw [hb]
    unfold infB nanB sv sz
    by_cases c : n % 9223372036854775808 = 9218868437227405312
    · rw [decide_eq_true c, c]; decide
    · rw [decide_eq_false c]
      by_cases d : 9218868437227405312 < n % 9223372036854775808 % 9223372036854775808
      · rw [decide_eq_true d]; rfl
      · rw [decide_eq_false d, if_pos (by decide), if_pos (by omega), decide_eq_false (by omega)]; rfl : (FloatKind.f64.format.order (sz n) 9218868437227405311 == some .gt) = infB n)
  generalize sz n = s at *
  go_enter Tryd.func9, Tryd.ntmps9
  go_wp2_with fail
  refine ha.mono ?_
  rintro e w1 ⟨rfl, rfl⟩
  go_wp2_with fail
  go_ret
  exact ⟨ret_bool ho.out, rfl⟩
end Go.Proofs.YtbljgmipfclcoabDoor
namespace Go.Proofs.YtbljgmipfclcoabDoor.Rp
open Flo Ieee Ari
theorem near_own {x : Nat} (hx : fin x) (s : Bool) : double.nearest s (vl x) (-1074) = double.word s (x % 9223372036854775808) := by
  rw [nearest_eq]
  unfold vl
  rw [rg_word hx.2, Nat.min_eq_left (by have := hx.2; omega)]
theorem word_fz {x : Nat} (hx : fin x) (s : Bool) : fin (double.word s (x % 9223372036854775808)) ∧ fz (double.word s (x % 9223372036854775808)) = (if s then -1 else 1) * ((vl x : Nat) : Int) := by
  obtain ⟨f1, f2, f3⟩ := word_facts s hx.2
  refine ⟨f1, ?_⟩
  rw [fz_eq, f2, f3]
  rfl
theorem add_nought {x y : Nat} (hx : fin x) (hy : fin y) (h : fz y = 0) : ∃ r, double.add x y = some r ∧ fin r ∧ fz r = fz x := by
  refine ⟨_, add_fin hx hy, ?_⟩
  rw [h, Int.add_zero, vl_abs, near_own hx]
  obtain ⟨f, e⟩ := word_fz hx (if fz x = 0 then sg x && sg y else decide (fz x < 0))
  refine ⟨f, ?_⟩
  rw [e]
  by_cases h0 : fz x = 0
  · have : vl x = 0 := by rw [← vl_abs, h0]; rfl
    rw [this, h0]; simp
  · rw [if_neg h0]
    by_cases hn : fz x < 0
    · rw [decide_eq_true hn, if_pos rfl]
      have := vl_abs x
      omega
    · rw [decide_eq_false hn, if_neg Bool.false_ne_true]
      have := vl_abs x
      omega
theorem nought_add {x y : Nat} (hx : fin x) (hy : fin y) (h : fz x = 0) : ∃ r, double.add x y = some r ∧ fin r ∧ fz r = fz y := by
  rw [Ari.add_comm]
  exact add_nought hy hx h
theorem mul_m1 {x : Nat} (hx : fin x) : ∃ r, double.mul x 13830554455654793216 = some r ∧ fin r ∧ fz r = - fz x := by
  have fm : fin 13830554455654793216 := ⟨by decide, by decide⟩
  refine ⟨_, mul_fin hx fm, ?_⟩
  have e1 : vl 13830554455654793216 = 2 ^ ul := by
    rw [← vr_one]; rfl
  rw [e1, nearest_scale, show (-2148 : Int) + ((ul : Nat) : Int) = -1074 by have := ul_eq; omega, near_own hx]
  obtain ⟨f, e⟩ := word_fz hx (sg x ^^ sg 13830554455654793216)
  refine ⟨f, ?_⟩
  rw [e, fz_eq, show sg 13830554455654793216 = true by decide]
  cases sg x <;> simp
theorem mul_nought {x y : Nat} (hx : fin x) (hy : fin y) (h : vl y = 0) : ∃ r, double.mul x y = some r ∧ fin r ∧ fz r = 0 := by
  refine ⟨_, mul_fin hx hy, ?_⟩
  rw [h, Nat.mul_zero, nearest_eq]
  have e : rg 0 (-2148) = 0 := by unfold rg; rw [if_pos rfl]
  rw [e, Nat.min_eq_left (by omega)]
  obtain ⟨f1, f2, f3⟩ := word_facts (sg x ^^ sg y) (r := 0) (by omega)
  refine ⟨f1, ?_⟩
  rw [fz_eq, f3, vr_zero]; simp
theorem co_add (x y : Nat) : co .add x y = (double.add x y).getD 9221120237041090560 := by
  unfold co floatBits
  change (match double.add x y with | some r => r | none => 9221120237041090560) = _
  cases double.add x y <;> rfl
/-- half a turn -/
theorem half_mul {a b : Nat} (ha : fin a) (hb : fin b) : (fin (mulRe a b 13830554455654793216 0) ∧ fz (mulRe a b 13830554455654793216 0) = fz (ng a)) ∧ (fin (mulIm a b 13830554455654793216 0) ∧ fz (mulIm a b 13830554455654793216 0) = fz (ng b)) := by
  have v0 : vl 0 = 0 := by decide
  have f0 : fin 0 := ⟨by decide, by decide⟩
  obtain ⟨r1, e1, g1, z1⟩ := mul_m1 ha
  obtain ⟨r2, e2, g2, z2⟩ := mul_nought hb f0 v0
  obtain ⟨r3, e3, g3, z3⟩ := mul_nought ha f0 v0
  obtain ⟨r4, e4, g4, z4⟩ := mul_m1 hb
  unfold mulRe mulIm
  rw [co_mul, co_mul, co_mul, co_mul, e1, e2, e3, e4]
  simp only [Option.getD_some]
  rw [co_sub, co_add, sub_eq r1 g2.1, fz_ng ha.1, fz_ng hb.1]
  obtain ⟨r5, e5, g5, z5⟩ := add_nought g1 (fin_ng g2) (by rw [fz_ng g2.1, z2]; rfl)
  obtain ⟨r6, e6, g6, z6⟩ := nought_add g3 g4 z3
  rw [e5, e6]
  simp only [Option.getD_some]
  exact ⟨⟨g5, by rw [z5, z1]⟩, ⟨g6, by rw [z6, z4]⟩⟩
/-- a quarter turn -/
theorem quarter_mul {a b : Nat} (ha : fin a) (hb : fin b) : (fin (mulRe a b 0 13830554455654793216) ∧ fz (mulRe a b 0 13830554455654793216) = fz b) ∧ (fin (mulIm a b 0 13830554455654793216) ∧ fz (mulIm a b 0 13830554455654793216) = fz (ng a)) := by
  have v0 : vl 0 = 0 := by decide
  have f0 : fin 0 := ⟨by decide, by decide⟩
  obtain ⟨r1, e1, g1, z1⟩ := mul_nought ha f0 v0
  obtain ⟨r2, e2, g2, z2⟩ := mul_m1 hb
  obtain ⟨r3, e3, g3, z3⟩ := mul_m1 ha
  obtain ⟨r4, e4, g4, z4⟩ := mul_nought hb f0 v0
  unfold mulRe mulIm
  rw [co_mul, co_mul, co_mul, co_mul, e1, e2, e3, e4]
  simp only [Option.getD_some]
  rw [co_sub, co_add, sub_eq r1 g2.1, fz_ng ha.1]
  obtain ⟨r5, e5, g5, z5⟩ := nought_add g1 (fin_ng g2) z1
  obtain ⟨r6, e6, g6, z6⟩ := add_nought g3 g4 z4
  rw [e5, e6]
  simp only [Option.getD_some]
  exact ⟨⟨g5, by rw [z5, fz_ng g2.1, z2]; omega⟩, ⟨g6, by rw [z6, z3]⟩⟩
end Go.Proofs.YtbljgmipfclcoabDoor.Rp
