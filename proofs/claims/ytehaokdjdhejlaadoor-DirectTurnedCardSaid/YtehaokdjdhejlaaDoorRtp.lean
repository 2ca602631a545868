/-
  Plain mathematics of the roots of unity as the document reckons them: the series, the eighth, the whole turn. No condition; nothing of the program.
-/
import Derived.Test.YtehaokdjdhejlaaDoorFop
namespace Go.Proofs.YtehaokdjdhejlaaDoor.Rp
open Flo Ieee Ari

def one : Nat := 4607182418800017408
def turn : Nat := 4618760256179416344
def half : Nat := 4604544271217802189
def fl (n : Int) : Nat := floatOfInt .f64 n

theorem fl_nat {n : Nat} (h : n ≤ 9007199254740992) : W (fl n) n := by
  have := W_int (n := (n : Int)) (by omega)
  exact this
/-- a whole number above 0 and its double, as words -/
theorem fl_word {n : Nat} (h0 : 0 < n) (h : n < 9007199254740992) : fl n = rg n 0 ∧ rg n 0 < 9218868437227405312 := by
  have hr := rg_rep (a := n) (k := ul) h (by
    calc n * 2 ^ ul < 2 ^ 53 * 2 ^ ul := Nat.mul_lt_mul_of_pos_right (by omega) (Nat.two_pow_pos _)
      _ = 2 ^ (53 + ul) := (Nat.pow_add ..).symm
      _ ≤ 2 ^ tp := Nat.pow_le_pow_right (by omega) (by have := ul_eq; have := tp_eq; omega))
  rw [rg_scale] at hr
  have e2 : (-1074 : Int) + ((ul : Nat) : Int) = 0 := by have := ul_eq; omega
  rw [e2] at hr
  refine ⟨?_, hr.1⟩
  unfold fl
  have e : floatOfInt .f64 (n : Int) = double.nearest (decide ((n : Int) < 0)) (n : Int).natAbs 0 := rfl
  rw [e, nearest_eq, Int.natAbs_natCast, Nat.min_eq_left (by omega), word_eq]
  have : decide ((n : Int) < 0) = false := decide_eq_false (by omega)
  rw [this]; rfl
theorem fl_shift {n j : Nat} (h0 : 0 < n) (h : n * 2 ^ j < 9007199254740992) : fl ((n * 2 ^ j : Nat) : Int) = fl n + j * 4503599627370496 := by
  have hj := Nat.two_pow_pos j
  have hn : n < 9007199254740992 := Nat.lt_of_le_of_lt (Nat.le_mul_of_pos_right n hj) h
  rw [(fl_word (Nat.mul_pos h0 hj) h).1, (fl_word h0 hn).1, rg_scale, rg_shift (by omega) (by omega)]
/-- where the rung of a number of many digits lies -/
theorem rg_bounds {m : Nat} (h : 52 ≤ m.log2) : (m.log2 - 51) * 4503599627370496 ≤ rg m (-1074) ∧ rg m (-1074) ≤ (m.log2 - 50) * 4503599627370496 := by
  have hm : m ≠ 0 := by intro c; subst c; rw [show Nat.log2 0 = 0 by decide] at h; omega
  have hl : lst m (-1074) = (m.log2 : Int) - 1126 := by unfold lst; omega
  unfold rg
  rw [if_neg hm, hl]
  have e1 : ((-1074 : Int) - ((m.log2 : Int) - 1126)).toNat = 0 := by omega
  have e2 : ((m.log2 : Int) - 1126 - -1074).toNat = m.log2 - 52 := by omega
  have e3 : ((m.log2 : Int) - 1126 + 1074).toNat = m.log2 - 52 := by omega
  rw [e1, e2, e3, Nat.pow_zero, Nat.mul_one]
  have h1 := Nat.log2_self_le hm
  have h2 := @Nat.lt_log2_self m
  have k1 : 4503599627370496 ≤ rhe m (m.log2 - 52) := by
    apply le_rhe
    have : 4503599627370496 * 2 ^ (m.log2 - 52) = 2 ^ m.log2 := by
      rw [show 4503599627370496 = 2 ^ 52 from rfl, ← Nat.pow_add]; congr 1; omega
    omega
  have k2 : rhe m (m.log2 - 52) ≤ 9007199254740992 := by
    apply rhe_le
    have : 9007199254740992 * 2 ^ (m.log2 - 52) = 2 ^ (m.log2 + 1) := by
      rw [show 9007199254740992 = 2 ^ 53 from rfl, ← Nat.pow_add]; congr 1; omega
    omega
  constructor
  · have : m.log2 - 51 = (m.log2 - 52) + 1 := by omega
    rw [this, Nat.add_mul]; omega
  · have : m.log2 - 50 = (m.log2 - 52) + 2 := by omega
    rw [this, Nat.add_mul]; omega

theorem fin_turn : fin turn := ⟨by decide, by decide⟩
def te : Nat := 1024
theorem te_eq : te = 1024 := rfl
theorem vl_turn : vl turn = 7074237752028440 * 2 ^ te := by
  have h1 : turn % 9223372036854775808 = turn := by decide
  have h2 : ex turn = te := by decide
  have h3 : mg turn = 7074237752028440 := by decide
  unfold vl vr
  rw [h1, h2, h3]
/-- the product of the turn and a whole number: its word -/
def tw (r : Nat) : Nat := rg (vl turn * r) (-1074)
theorem log_turn {r : Nat} (h0 : 0 < r) (h : r < 33554432) : 52 ≤ (vl turn * r).log2 ∧ (vl turn * r).log2 < 1110 := by
  rw [vl_turn]
  have e : 7074237752028440 * 2 ^ te * r = (7074237752028440 * r) * 2 ^ te := Nat.mul_right_comm _ _ _
  rw [e]
  have hne : 7074237752028440 * r ≠ 0 := by omega
  rw [log2_mul_pow hne]
  have l1 : 52 ≤ (7074237752028440 * r).log2 := (Nat.le_log2 hne).2 (by omega)
  have l2 : (7074237752028440 * r).log2 < 79 := (Nat.log2_lt hne).2 (by omega)
  have := te_eq
  omega
theorem tw_bounds {r : Nat} (h0 : 0 < r) (h : r < 33554432) : 4503599627370496 ≤ tw r ∧ tw r < 1060 * 4503599627370496 := by
  obtain ⟨l1, l2⟩ := log_turn h0 h
  obtain ⟨b1, b2⟩ := rg_bounds l1
  unfold tw
  have c1 : 1 * 4503599627370496 ≤ ((vl turn * r).log2 - 51) * 4503599627370496 := Nat.mul_le_mul_right _ (by omega)
  have c2 : ((vl turn * r).log2 - 50) * 4503599627370496 ≤ 1059 * 4503599627370496 := Nat.mul_le_mul_right _ (by omega)
  omega
theorem mul_turn {r : Nat} (h0 : 0 < r) (h : r < 33554432) : double.mul turn (fl r) = some (tw r) := by
  have hW := fl_nat (n := r) (by omega)
  have hb := tw_bounds h0 h
  rw [mul_fin fin_turn hW.1, W_vl hW, Int.natAbs_natCast, ← Nat.mul_assoc, nearest_scale]
  have e2 : (-2148 : Int) + ((ul : Nat) : Int) = -1074 := by have := ul_eq; omega
  have hs : sg (fl r) = false := by rw [W_sg hW (by omega)]; exact decide_eq_false (by omega)
  have hs2 : sg turn = false := by decide
  rw [e2, hs, hs2, nearest_eq, word_eq]
  have : min (rg (vl turn * r) (-1074)) 9218868437227405312 = tw r := by unfold tw at *; omega
  rw [this]
  simp only [Bool.xor_false, Bool.false_eq_true, if_false]
theorem co_mul (x y : Nat) : co .mul x y = (double.mul x y).getD 9221120237041090560 := by
  unfold co floatBits
  change (match double.mul x y with | some r => r | none => 9221120237041090560) = _
  cases double.mul x y <;> rfl
theorem co_quo (x y : Nat) : co .quo x y = (double.div x y).getD 9221120237041090560 := by
  unfold co floatBits
  change (match double.div x y with | some r => r | none => 9221120237041090560) = _
  cases double.div x y <;> rfl
theorem tw_shift {r j : Nat} (h0 : 0 < r) (h : r * 2 ^ j < 33554432) : tw (r * 2 ^ j) = tw r + j * 4503599627370496 := by
  have hr : r < 33554432 := Nat.lt_of_le_of_lt (Nat.le_mul_of_pos_right r (Nat.two_pow_pos j)) h
  unfold tw
  have l := log_turn h0 hr
  rw [← Nat.mul_assoc, rg_scale, rg_shift (by intro c; rw [c, show Nat.log2 0 = 0 by decide] at l; omega) (by omega)]
/-- a quotient of two normal numbers doesn't see that both are moved -/
theorem div_shift {a b j : Nat} (ha : 4503599627370496 ≤ a) (hb : 4503599627370496 ≤ b) (ha2 : a + j * 4503599627370496 < 9218868437227405312) (hb2 : b + j * 4503599627370496 < 9218868437227405312) :
    double.div (a + j * 4503599627370496) (b + j * 4503599627370496) = double.div a b := by
  have key : ∀ x : Nat, 4503599627370496 ≤ x → x + j * 4503599627370496 < 9218868437227405312 → double.read x = .number false (mg x) (double.leastPlace + ex x) ∧ double.read (x + j * 4503599627370496) = .number false (mg x) (double.leastPlace + ex x + j) := by
    intro x h1 h2
    have m1 : x % 9223372036854775808 = x := Nat.mod_eq_of_lt (by omega)
    have m2 : (x + j * 4503599627370496) % 9223372036854775808 = x + j * 4503599627370496 := Nat.mod_eq_of_lt (by omega)
    have e1 : ex (x + j * 4503599627370496) = ex x + j := by unfold ex; omega
    have e2 : mg (x + j * 4503599627370496) = mg x := by
      unfold mg; rw [e1]; unfold ex; omega
    have r1 := read_fin x (by omega) (by rw [m1]; omega)
    have r2 := read_fin (x + j * 4503599627370496) (by omega) (by rw [m2]; omega)
    rw [m1] at r1
    rw [m2, e1, e2] at r2
    refine ⟨?_, ?_⟩
    · rw [r1, decide_eq_false (by omega)]
    · rw [r2, decide_eq_false (by omega)]
      congr 1
      omega
  obtain ⟨a1, a2⟩ := key a ha ha2
  obtain ⟨b1, b2⟩ := key b hb hb2
  unfold Format.div
  rw [a1, a2, b1, b2]
  simp only [Datum.quotient]
  have e : ∀ m : Int, double.leastPlace + (ex a : Int) + (j : Int) - (double.leastPlace + (ex b : Int) + (j : Int)) - m - 1 = double.leastPlace + (ex a : Int) - (double.leastPlace + (ex b : Int)) - m - 1 := by intro m; omega
  simp only [e]
/-- the angle hangs on r/n alone -/
theorem angle_scale {r n j : Nat} (h0 : 0 < r) (h1 : 0 < n) (h : r * 2 ^ j < 33554432) (h2 : n * 2 ^ j < 33554432) :
    co .quo (co .mul turn (fl ((r * 2 ^ j : Nat) : Int))) (fl ((n * 2 ^ j : Nat) : Int)) = co .quo (co .mul turn (fl r)) (fl n) := by
  have hj := Nat.two_pow_pos j
  have hr : r < 33554432 := Nat.lt_of_le_of_lt (Nat.le_mul_of_pos_right r hj) h
  have m1 : co .mul turn (fl ((r * 2 ^ j : Nat) : Int)) = tw (r * 2 ^ j) := by
    rw [co_mul, mul_turn (Nat.mul_pos h0 hj) h, Option.getD_some]
  have m2 : co .mul turn (fl r) = tw r := by
    rw [co_mul, mul_turn h0 hr, Option.getD_some]
  rw [m1, m2, tw_shift h0 h, fl_shift h1 (by omega)]
  have bn := fl_word h1 (show n < 9007199254740992 from Nat.lt_of_le_of_lt (Nat.le_mul_of_pos_right n hj) (by omega))
  have j25 : j < 25 := by
    apply Nat.lt_of_not_le
    intro hc
    have : 2 ^ 25 ≤ 2 ^ j := Nat.pow_le_pow_right (by omega) hc
    have : 1 * 2 ^ j ≤ n * 2 ^ j := Nat.mul_le_mul_right _ h1
    omega
  have tb := tw_bounds h0 hr
  have nb : 4503599627370496 ≤ fl n ∧ fl n < 1200 * 4503599627370496 := by
    have e : rg n 0 = rg (n * 2 ^ ul) (-1074) := by
      have e2 : (-1074 : Int) + ((ul : Nat) : Int) = 0 := by have := ul_eq; omega
      rw [rg_scale, e2]
    have lg : (n * 2 ^ ul).log2 = n.log2 + ul := log2_mul_pow (by omega) ul
    have ln : n.log2 < 25 := (Nat.log2_lt (by omega)).2 (Nat.lt_of_le_of_lt (Nat.le_mul_of_pos_right n hj) (by omega))
    have hul := ul_eq
    obtain ⟨b1, b2⟩ := rg_bounds (m := n * 2 ^ ul) (by omega)
    rw [bn.1, e]
    have c1 : 1 * 4503599627370496 ≤ ((n * 2 ^ ul).log2 - 51) * 4503599627370496 := Nat.mul_le_mul_right _ (by omega)
    have c2 : ((n * 2 ^ ul).log2 - 50) * 4503599627370496 ≤ 1199 * 4503599627370496 := Nat.mul_le_mul_right _ (by omega)
    omega
  have jb : j * 4503599627370496 ≤ 24 * 4503599627370496 := Nat.mul_le_mul_right _ (by omega)
  have hd := div_shift (a := tw r) (b := fl n) (j := j) tb.1 nb.1 (by omega) (by omega)
  rw [co_quo, co_quo, hd]
end Go.Proofs.YtehaokdjdhejlaaDoor.Rp
