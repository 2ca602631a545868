/-
  Package planner: sum, times, product; fly.Work; slices.Index and Contains of ints.
-/
import Derived.WalkKit
import Ieee.Arith
import Derived.WalkLawsBesides
import Derived.Laws.FloatArith
import Derived.Test.YtoaccmblaifnmaaDoorProg
import Derived.RegionTactic
import Derived.Outline
import Derived.Lib.Mul64
import Derived.Laws.Bits64b
import Derived.Deep.QuietTactic
import Derived.BigQuiet
import Derived.WalkSmall
import Derived.Deep.CutBlock
import Derived.Deep.DeepCutAuto
import Derived.Laws.Rows
import Derived.Lib.ItoaNum
import Derived.Laws.IdiomStrings
import Derived.Deep.RegionHeld3
import Derived.Lib.SmallJoins
import Derived.Lib.HexFns
import Derived.Test.YtoaccmblaifnmaaDoorRows
import Derived.LaidEql
import Derived.LaidLaws
import Derived.LaidHandle
import Derived.Stop.Joined
import Derived.Deep.RegionWith
import Derived.Recover
import Derived.RegionDies
import Derived.Laws.CopyOwn
import Derived.Lib.AppendIntMem
import Derived.Test.YtoaccmblaifnmaaDoorBa3
import Derived.Test.YtoaccmblaifnmaaDoorBa4
import Derived.Test.YtoaccmblaifnmaaDoorBa8
namespace Go.Proofs.YtoaccmblaifnmaaDoor
open Flo Go.RowKit Tr
open Pl (tm)
set_option maxHeartbeats 1000000 in
theorem psum_c (a b c : Nat) (ha : a ≤ 4611686018427387905) (hb : b ≤ 4611686018427387905) (hc : c = tm (a + b)) (w : World) : Calls Tryd.prog 80 #[.int .i64 (a : Int), .int .i64 (b : Int)] w fun e w' => e = .returned (.int .i64 (c : Int)) ∧ w' = w := by
  obtain ⟨d, hd⟩ : ∃ d : Int, (4611686018427387905 : Int) - (b : Int) = d := ⟨_, rfl⟩
  have w1 : wrap64 d = d := by unfold wrap64; omega
  by_cases h : 4611686018427387905 < a + b
  · have h1 : (a : Int) > d := by omega
    have e : c = 4611686018427387905 := by rw [hc]; unfold tm; omega
    subst e
    clear hc
    clear h ha hb
    go_enter Tryd.func80, Tryd.ntmps80
    go_wp2_with fail
    go_ret
    exact ⟨rfl, rfl⟩
  · have h1 : decide ((a : Int) > d) = false := decide_eq_false (by omega)
    have h2 : ¬ d < (a : Int) := by omega
    have e : c = a + b := by rw [hc]; unfold tm; omega
    have e2 : (a : Int) + (b : Int) = (c : Int) := by rw [e]; omega
    have e3 : wrap64 (c : Int) = (c : Int) := by rw [e]; unfold wrap64; omega
    clear hc e h ha hb
    go_enter Tryd.func80, Tryd.ntmps80
    go_wp2_with fail
    go_ret
    exact ⟨rfl, rfl⟩
set_option maxHeartbeats 1000000 in
theorem ptimes_c (n a c : Nat) (hn : 1 ≤ n) (hn2 : n ≤ 16384) (hc : c = tm (n * a)) (w : World) : Calls Tryd.prog 81 #[.int .i64 (n : Int), .int .i64 (a : Int)] w fun e w' => e = .returned (.int .i64 (c : Int)) ∧ w' = w := by
  obtain ⟨q, hq⟩ : ∃ q : Nat, 4611686018427387905 / n = q := ⟨_, rfl⟩
  have hqi : (4611686018427387905 : Int) / (n : Int) = (q : Int) := by rw [← hq]; rfl
  have hql : q ≤ 4611686018427387905 := by rw [← hq]; exact Nat.div_le_self _ _
  have nz : ((n : Int) == 0) = false := beq_eq_false_iff_ne.2 (by omega)
  have w1 : wrap64 ((4611686018427387905 : Int) / (n : Int)) = (q : Int) := by rw [hqi]; unfold wrap64; omega
  have key : a ≤ q ↔ n * a ≤ 4611686018427387905 := by rw [← hq, Nat.le_div_iff_mul_le (by omega), Nat.mul_comm]
  by_cases h : q < a
  · have h1 : (a : Int) > (q : Int) := by omega
    have e : c = 4611686018427387905 := by
      rw [hc]; unfold tm
      have : ¬ n * a ≤ 4611686018427387905 := fun hh => (by have := key.2 hh; omega)
      omega
    subst e
    clear hc
    clear hq hql key h w1
    go_enter Tryd.func81, Tryd.ntmps81
    go_wp2_with fail
    go_ret
    exact ⟨rfl, rfl⟩
  · have h1 : decide ((a : Int) > (q : Int)) = false := decide_eq_false (by omega)
    have hle := key.1 (by omega)
    have e : c = n * a := by rw [hc]; unfold tm; omega
    have e2 : (n : Int) * (a : Int) = (c : Int) := by rw [castMul, ← e]
    have e3 : wrap64 (c : Int) = (c : Int) := by unfold wrap64; omega
    have h2 : ¬ q < a := h
    clear hc e hq hql key hle w1
    go_enter Tryd.func81, Tryd.ntmps81
    go_wp2_with fail
    go_ret
    exact ⟨by rw [e3]; rfl, rfl⟩
theorem work_c (n : Nat) (h1 : 2 ≤ n) (h2 : n ≤ 5) (w : World) : Calls Tryd.prog 78 #[.int .i64 (n : Int)] w fun e w' => (∃ x y : Nat, e = .returned (.tuple #[.int .i64 (x : Int), .int .i64 (y : Int)]) ∧ x + y = Pl.wk n ∧ x ≤ 32 ∧ y ≤ 16) ∧ w' = w := by
  have hc : n = 2 ∨ n = 3 ∨ n = 4 ∨ n = 5 := by omega
  rcases hc with rfl | rfl | rfl | rfl
  all_goals
    go_enter Tryd.func78, Tryd.ntmps78
    go_wp2
    go_ret2
  · exact ⟨⟨4, 0, rfl, rfl, by decide, by decide⟩, rfl⟩
  · exact ⟨⟨12, 4, rfl, rfl, by decide, by decide⟩, rfl⟩
  · exact ⟨⟨16, 0, rfl, rfl, by decide, by decide⟩, rfl⟩
  · exact ⟨⟨32, 16, rfl, rfl, by decide, by decide⟩, rfl⟩
/-- a pair of length and cost in a block -/
structure Bm (w : World) (b : Nat) (l c : Int) : Prop where
  b : w.heap[b]? = some (.cells #[.int .i64 l, .int .i64 c] 85 (0, 0))
theorem Bm.c0 {w : World} {b : Nat} {l c : Int} (h : Bm w b l c) : w.cell? ⟨b, 0, none⟩ = some (.int .i64 l) := by rw [Joins.cell_of_block h.b]; rfl
theorem Bm.c1 {w : World} {b : Nat} {l c : Int} (h : Bm w b l c) : w.cell? ⟨b, 1, none⟩ = some (.int .i64 c) := by rw [Joins.cell_of_block h.b]; rfl
theorem Bm.fz {w : World} {b : Nat} {l c : Int} (h : Bm w b l c) (i : Nat) : w.frozen? ⟨b, i, none⟩ = false := by unfold World.frozen?; rw [h.b]; simp
theorem Bm.new (w : World) (l c : Int) : Bm (w.alloc (.cells #[.int .i64 l, .int .i64 c] 85)) w.heap.size l c := ⟨heap_alloc_new w _⟩
theorem Bm.bel {w w' : World} {b : Nat} {l c : Int} (h : Bm w b l c) (k : Below w.heap.size w w') : Bm w' b l c := ⟨(k.block b (blk_lt h.b)).trans h.b⟩
/-- what product answers, of lengths and costs -/
def prc (a b x y : Nat) (f : Bool) : Nat := tm (tm (tm (tm (a * y) + tm (b * x)) + 6 * (a - 1) * (b - 1)) + (if f then 0 else a * b))
theorem tm_tm (x : Nat) : tm (tm x) = tm x := by unfold tm; omega
theorem tm_le (x : Nat) : tm x ≤ 4611686018427387905 := by unfold tm; omega
set_option maxHeartbeats 2000000 in
set_option maxRecDepth 100000 in
theorem pproduct_c (a b x y : Nat) (f : Bool) (ha : 2 ≤ a) (hb : 2 ≤ b) (hab : a * b ≤ 16384) (w : World) :
    Calls Tryd.prog 79 #[.agg #[.int .i64 (a : Int), .int .i64 (x : Int)], .agg #[.int .i64 (b : Int), .int .i64 (y : Int)], .bool f] w fun e w' => e = .returned (.agg #[.int .i64 ((a * b : Nat) : Int), .int .i64 (prc a b x y f : Int)]) ∧ Below w.heap.size w w' := by
  obtain ⟨n, hn⟩ : ∃ n, a * b = n := ⟨_, rfl⟩
  have hn1 : n ≤ 16384 := by rw [← hn]; exact hab
  have ha2 : a ≤ 16384 := by have := Nat.le_mul_of_pos_right a (show 0 < b by omega); omega
  have hb2 : b ≤ 16384 := by have := Nat.le_mul_of_pos_left b (show 0 < a by omega); omega
  obtain ⟨a1, ha1⟩ : ∃ a1 : Nat, (a : Int) - 1 = (a1 : Int) := ⟨a - 1, by omega⟩
  obtain ⟨b1, hb1⟩ : ∃ b1 : Nat, (b : Int) - 1 = (b1 : Int) := ⟨b - 1, by omega⟩
  obtain ⟨a6, ha6⟩ : ∃ a6 : Nat, 6 * (a1 : Int) = (a6 : Int) := ⟨6 * a1, by omega⟩
  have ea6 : a6 = 6 * (a - 1) := by omega
  have eb1 : b1 = b - 1 := by omega
  obtain ⟨tw, htw⟩ : ∃ tw, 6 * (a - 1) * (b - 1) = tw := ⟨_, rfl⟩
  have htl : tw ≤ 98304 := by
    have h1 : (a - 1) * (b - 1) ≤ a * b := Nat.mul_le_mul (by omega) (by omega)
    rw [← htw, Nat.mul_assoc]; omega
  obtain ⟨p1, hp1⟩ : ∃ p1, tm (a * y) = p1 := ⟨_, rfl⟩
  obtain ⟨p2, hp2⟩ : ∃ p2, tm (b * x) = p2 := ⟨_, rfl⟩
  obtain ⟨p3, hp3⟩ : ∃ p3, tm (p1 + p2) = p3 := ⟨_, rfl⟩
  obtain ⟨p4, hp4⟩ : ∃ p4, tm (p3 + tw) = p4 := ⟨_, rfl⟩
  have l1 : p1 ≤ 4611686018427387905 := by rw [← hp1]; exact tm_le _
  have l2 : p2 ≤ 4611686018427387905 := by rw [← hp2]; exact tm_le _
  have l3 : p3 ≤ 4611686018427387905 := by rw [← hp3]; exact tm_le _
  have l4 : p4 ≤ 4611686018427387905 := by rw [← hp4]; exact tm_le _
  have k1 : Hid (∀ w, Calls Tryd.prog 81 #[.int .i64 (a : Int), .int .i64 (y : Int)] w fun e w' => e = .returned (.int .i64 (p1 : Int)) ∧ w' = w) := fun w => ptimes_c a y p1 (by omega) ha2 hp1.symm w
  have k2 : Hid (∀ w, Calls Tryd.prog 81 #[.int .i64 (b : Int), .int .i64 (x : Int)] w fun e w' => e = .returned (.int .i64 (p2 : Int)) ∧ w' = w) := fun w => ptimes_c b x p2 (by omega) hb2 hp2.symm w
  have k3 : Hid (∀ w, Calls Tryd.prog 80 #[.int .i64 (p1 : Int), .int .i64 (p2 : Int)] w fun e w' => e = .returned (.int .i64 (p3 : Int)) ∧ w' = w) := fun w => psum_c p1 p2 p3 l1 l2 hp3.symm w
  have k4 : Hid (∀ w, Calls Tryd.prog 80 #[.int .i64 (p3 : Int), .int .i64 (tw : Int)] w fun e w' => e = .returned (.int .i64 (p4 : Int)) ∧ w' = w) := fun w => psum_c p3 tw p4 l3 (by omega) hp4.symm w
  obtain ⟨p5, hp5⟩ : ∃ p5, tm (p4 + n) = p5 := ⟨_, rfl⟩
  have k5 : Hid (∀ w, Calls Tryd.prog 80 #[.int .i64 (p4 : Int), .int .i64 (n : Int)] w fun e w' => e = .returned (.int .i64 (p5 : Int)) ∧ w' = w) := fun w => psum_c p4 n p5 l4 (by omega) hp5.symm w
  have er : Hid (prc a b x y f = if f then p4 else p5) := by
    show _ = _
    unfold prc
    rw [hp1, hp2, hp3, htw, hp4, hn]
    cases f
    · exact hp5
    · show tm (p4 + 0) = p4
      rw [Nat.add_zero, ← hp4, tm_tm]
  rw [er.out, hn]
  have m1 : (a : Int) * (b : Int) = (n : Int) := by rw [castMul, hn]
  have m2 : (a6 : Int) * (b1 : Int) = (tw : Int) := by rw [castMul, ea6, eb1, htw]
  have a6l : a6 ≤ 98304 := by omega
  obtain ⟨wa, ewa⟩ : ∃ wa, Hid (w.alloc (.cells #[.int .i64 (a : Int), .int .i64 (x : Int)] 85) = wa) := ⟨_, (rfl : _ = _)⟩
  obtain ⟨wb, ewb⟩ : ∃ wb, Hid (wa.alloc (.cells #[.int .i64 (b : Int), .int .i64 (y : Int)] 85) = wb) := ⟨_, (rfl : _ = _)⟩
  obtain ⟨wc, ewc⟩ : ∃ wc, Hid (wb.alloc (.cells #[.int .i64 0, .int .i64 0] 85) = wc) := ⟨_, (rfl : _ = _)⟩
  have sa : wa.heap.size = w.heap.size + 1 := by rw [← ewa.out]; simp
  have sb : wb.heap.size = w.heap.size + 2 := by rw [← ewb.out]; simp [sa]
  have Ba : Below w.heap.size w wa := by rw [← ewa.out]; exact (Below.refl _ _).alloc (Nat.le_refl _) _
  have Bab : Below wa.heap.size wa wb := by rw [← ewb.out]; exact (Below.refl _ _).alloc (Nat.le_refl _) _
  have Bbc : Below wb.heap.size wb wc := by rw [← ewc.out]; exact (Below.refl _ _).alloc (Nat.le_refl _) _
  have Bc : Hid (Below w.heap.size w wc) := btr (btr Ba Bab) Bbc
  have Xc : Bm wc w.heap.size a x := by
    have h : Bm wa w.heap.size a x := by rw [← ewa.out]; exact Bm.new _ _ _
    exact (h.bel Bab).bel Bbc
  have Yc : Bm wc (w.heap.size + 1) b y := by
    have h : Bm wb wa.heap.size b y := by rw [← ewb.out]; exact Bm.new _ _ _
    rw [sa] at h; exact h.bel Bbc
  have Zc : Bm wc (w.heap.size + 2) 0 0 := by
    have h : Bm wc wb.heap.size 0 0 := by rw [← ewc.out]; exact Bm.new _ _ _
    rw [sb] at h; exact h
  have Ze : Hid (w.heap.size + 1 + 1 = w.heap.size + 2) := (rfl : _ = _)
  clear hn hab htw hp1 hp2 hp3 hp4 hp5 ea6 eb1 Ba Bab Bbc sa sb er l1 l2 l3 l4
  go_enter Tryd.func79, Tryd.ntmps79
  go_upto_region 1 with fail
  rw [ewa.out, ewb.out, ewc.out, Ze.out]
  obtain ⟨g, hg⟩ : ∃ g, Hid (w.heap.size = g) := ⟨_, (rfl : _ = _)⟩
  rw [hg.out] at Xc Yc Zc ⊢
  have x0 := Xc.c0
  have x1 := Xc.c1
  have y0 := Yc.c0
  have y1 := Yc.c1
  have ZH : Hid (Bm wc (g + 2) 0 0) := Zc
  clear Xc Yc Zc
  go_upto_region 3 with fail
  go_quiet (first
    | (go_at_call_of 81 (Value.int IntKind.i64 (a : Int)); exact Calls.quiet_of_same (k1.out _))
    | (go_at_call_of 81 (Value.int IntKind.i64 (b : Int)); exact Calls.quiet_of_same (k2.out _))
    | (go_at_call_of 80 (Value.int IntKind.i64 (p1 : Int)); exact Calls.quiet_of_same (k3.out _))
    | (go_at_call_of 80 (Value.int IntKind.i64 (p3 : Int)); exact Calls.quiet_of_same (k4.out _)))
  have Bq : Hid (Below w.heap.size w (wc.drewN nq)) := below_drewN Bc.out nq
  have Zq : Hid (Bm (wc.drewN nq) (g + 2) 0 0) := ⟨ZH.out.b⟩
  clear x0 x1 y0 y1 ZH k1 k2 k3 k4 Bc
  generalize wc.drewN nq = wd at *
  have z0 := Zq.out.c0
  have z1 := Zq.out.c1
  have f0 := Zq.out.fz 0
  have f1 := Zq.out.fz 1
  have fin : ∀ c : Nat, Hid ((((wd.setCell ⟨g + 2, 0, none⟩ (.int .i64 (n : Int))).setCell ⟨g + 2, 1, none⟩ (.int .i64 (c : Int))).cell? ⟨g + 2, 0, none⟩ = some (.int .i64 (n : Int)) ∧ ((wd.setCell ⟨g + 2, 0, none⟩ (.int .i64 (n : Int))).setCell ⟨g + 2, 1, none⟩ (.int .i64 (c : Int))).cell? ⟨g + 2, 1, none⟩ = some (.int .i64 (c : Int))) ∧ Below w.heap.size w ((wd.setCell ⟨g + 2, 0, none⟩ (.int .i64 (n : Int))).setCell ⟨g + 2, 1, none⟩ (.int .i64 (c : Int)))) := fun c => by
    refine ⟨⟨?_, ?_⟩, ?_⟩
    · rw [World.cell?_setCell_other _ _ _ _ (by simp)]
      exact World.cell?_setCell_same' _ _ _ (by rw [z0]; rfl)
    · exact World.cell?_setCell_same' _ _ _ (by rw [World.cell?_setCell_other _ _ _ _ (by simp), z1]; rfl)
    · exact (Bq.out.setCell (p := ⟨g + 2, 0, none⟩) (by rw [hg.out]; show g ≤ g + 2; omega) _).setCell (p := ⟨g + 2, 1, none⟩) (by rw [hg.out]; show g ≤ g + 2; omega) _
  cases f
  · have fin0 := fin p5
    clear fin
    go_wp2_with fail
    refine (k5.out _).mono ?_
    rintro e w' ⟨rfl, rfl⟩
    go_wp2_with fail
    have q0 := fin0.out.1.1
    have q1 := fin0.out.1.2
    refine bodyPost_ret (v := .agg #[.int .i64 (n : Int), .int .i64 (p5 : Int)]) (by simp [results, Tryd.results79, go_sem, q0, q1]) rfl ?_
    exact ⟨rfl, fin0.out.2⟩
  · have fin0 := fin p4
    clear fin
    go_wp2_with fail
    have q0 := fin0.out.1.1
    have q1 := fin0.out.1.2
    refine bodyPost_ret (v := .agg #[.int .i64 (n : Int), .int .i64 (p4 : Int)]) (by simp [results, Tryd.results79, go_sem, q0, q1]) rfl ?_
    exact ⟨rfl, fin0.out.2⟩
end Go.Proofs.YtoaccmblaifnmaaDoor
