/-
  Package steps: within, withinOrNone, counts, fits.
-/
import Derived.Test.YtedfjedmapimnaaDoorSp0
import Derived.Test.YtedfjedmapimnaaDoorNum
import Derived.Deep.Cut
import Derived.Deep.DeepCutAuto
namespace Go.Proofs.YtedfjedmapimnaaDoor
open Flo Go.RowKit
theorem swithin_c (x lo hi : Int) (b : Bool) (hb : Sp.wi x lo hi = b) (w : World) :
    Calls Tryd.prog 48 #[.int .i64 x, .int .i64 lo, .int .i64 hi] w fun e w' => e = .returned (.bool b) ∧ w = w' := by
  subst hb
  by_cases h1 : lo ≤ x
  · by_cases h2 : x ≤ hi
    · have hf : Hid (Sp.wi x lo hi = true) := Sp.wi_iff.2 ⟨h1, h2⟩
      rw [hf.out]
      go_enter Tryd.func48, Tryd.ntmps48
      go_wp2
      go_ret
      exact ⟨rfl, rfl⟩
    · have hf : Hid (Sp.wi x lo hi = false) := by unfold Sp.wi; rw [decide_eq_false h2, Bool.and_false]; rfl
      rw [hf.out]
      have q2 : decide (x ≤ hi) = false := decide_eq_false h2
      go_enter Tryd.func48, Tryd.ntmps48
      go_wp2
      go_ret
      exact ⟨rfl, rfl⟩
  · have hf : Hid (Sp.wi x lo hi = false) := by unfold Sp.wi; rw [decide_eq_false h1, Bool.false_and]; rfl
    rw [hf.out]
    have q1 : decide (lo ≤ x) = false := decide_eq_false h1
    go_enter Tryd.func48, Tryd.ntmps48
    go_wp2
    go_ret
    exact ⟨rfl, rfl⟩
theorem sor_c (h : Bool) (x lo hi : Int) (b : Bool) (hb : Sp.wo h x lo hi = b) (w : World) :
    Calls Tryd.prog 49 #[.bool h, .int .i64 x, .int .i64 lo, .int .i64 hi] w fun e w' => e = .returned (.bool b) ∧ w = w' := by
  cases h with
  | true =>
    have hH : Hid (Sp.wi x lo hi = b) := hb
    clear hb
    go_enter Tryd.func49, Tryd.ntmps49
    go_wp2_with fail
    refine (swithin_c x lo hi b hH.out w).mono ?_
    rintro e w' ⟨rfl, rfl⟩
    go_wp2
    go_ret
    exact ⟨rfl, rfl⟩
  | false =>
    have hH : (x == 0) = b := hb
    clear hb
    go_enter Tryd.func49, Tryd.ntmps49
    go_wp2
    go_ret
    exact ⟨rfl, rfl⟩
/-- an operation's row and a step, as values -/
def opa (nm : ByteArray) (b1 b2 b3 : Bool) (l m : Int) (b4 : Bool) (c : Int) : Value := .agg #[.string nm, .bool b1, .bool b2, .bool b3, .int .i64 l, .int .i64 m, .bool b4, .int .i64 c]
def sva (op dst src jump count n k : Int) : Value := .agg #[.int .i64 op, .int .i64 dst, .int .i64 src, .int .i64 jump, .int .i64 count, .int .i64 n, .int .i64 k]
/-- an operation's row at a block; a step at a block -/
structure Bop (w : World) (g : Nat) (nm : ByteArray) (b1 b2 b3 : Bool) (l m : Int) (b4 : Bool) (c : Int) : Prop where
  c0 : w.cell? ⟨g, 0, none⟩ = some (.string nm)
  c1 : w.cell? ⟨g, 1, none⟩ = some (.bool b1)
  c2 : w.cell? ⟨g, 2, none⟩ = some (.bool b2)
  c3 : w.cell? ⟨g, 3, none⟩ = some (.bool b3)
  c4 : w.cell? ⟨g, 4, none⟩ = some (.int .i64 l)
  c5 : w.cell? ⟨g, 5, none⟩ = some (.int .i64 m)
  c6 : w.cell? ⟨g, 6, none⟩ = some (.bool b4)
  c7 : w.cell? ⟨g, 7, none⟩ = some (.int .i64 c)
structure Bst (w : World) (g : Nat) (op dst src jump count n k : Int) : Prop where
  c0 : w.cell? ⟨g, 0, none⟩ = some (.int .i64 op)
  c1 : w.cell? ⟨g, 1, none⟩ = some (.int .i64 dst)
  c2 : w.cell? ⟨g, 2, none⟩ = some (.int .i64 src)
  c3 : w.cell? ⟨g, 3, none⟩ = some (.int .i64 jump)
  c4 : w.cell? ⟨g, 4, none⟩ = some (.int .i64 count)
  c5 : w.cell? ⟨g, 5, none⟩ = some (.int .i64 n)
  c6 : w.cell? ⟨g, 6, none⟩ = some (.int .i64 k)
section
variable {w w' : World} {B g : Nat} {nm : ByteArray} {b1 b2 b3 b4 : Bool} {l m c op dst src jump count n k : Int}
theorem Bop.new (w : World) (nm : ByteArray) (b1 b2 b3 : Bool) (l m : Int) (b4 : Bool) (c : Int) : Bop (w.alloc (.cells #[.string nm, .bool b1, .bool b2, .bool b3, .int .i64 l, .int .i64 m, .bool b4, .int .i64 c] 68)) w.heap.size nm b1 b2 b3 l m b4 c := ⟨by simp, by simp, by simp, by simp, by simp, by simp, by simp, by simp⟩
theorem Bst.new (w : World) (op dst src jump count n k : Int) : Bst (w.alloc (.cells #[.int .i64 op, .int .i64 dst, .int .i64 src, .int .i64 jump, .int .i64 count, .int .i64 n, .int .i64 k] 39)) w.heap.size op dst src jump count n k := ⟨by simp, by simp, by simp, by simp, by simp, by simp, by simp⟩
theorem Bop.below (h : Bop w g nm b1 b2 b3 l m b4 c) (hb : Below w.heap.size w w') : Bop w' g nm b1 b2 b3 l m b4 c := ⟨(hb.cell (p := ⟨g, 0, none⟩) (cell_lt h.c0)).trans h.c0, (hb.cell (p := ⟨g, 1, none⟩) (cell_lt h.c1)).trans h.c1, (hb.cell (p := ⟨g, 2, none⟩) (cell_lt h.c2)).trans h.c2, (hb.cell (p := ⟨g, 3, none⟩) (cell_lt h.c3)).trans h.c3, (hb.cell (p := ⟨g, 4, none⟩) (cell_lt h.c4)).trans h.c4, (hb.cell (p := ⟨g, 5, none⟩) (cell_lt h.c5)).trans h.c5, (hb.cell (p := ⟨g, 6, none⟩) (cell_lt h.c6)).trans h.c6, (hb.cell (p := ⟨g, 7, none⟩) (cell_lt h.c7)).trans h.c7⟩
theorem Bst.below (h : Bst w g op dst src jump count n k) (hb : Below w.heap.size w w') : Bst w' g op dst src jump count n k := ⟨(hb.cell (p := ⟨g, 0, none⟩) (cell_lt h.c0)).trans h.c0, (hb.cell (p := ⟨g, 1, none⟩) (cell_lt h.c1)).trans h.c1, (hb.cell (p := ⟨g, 2, none⟩) (cell_lt h.c2)).trans h.c2, (hb.cell (p := ⟨g, 3, none⟩) (cell_lt h.c3)).trans h.c3, (hb.cell (p := ⟨g, 4, none⟩) (cell_lt h.c4)).trans h.c4, (hb.cell (p := ⟨g, 5, none⟩) (cell_lt h.c5)).trans h.c5, (hb.cell (p := ⟨g, 6, none⟩) (cell_lt h.c6)).trans h.c6⟩
end
set_option maxHeartbeats 1000000 in
theorem scounts_c (nm : ByteArray) (b1 b2 b3 b4 : Bool) (l m c : Int) (op dst src jump count n k : Int) (hc : c = 0 ∨ c = 1 ∨ c = 2 ∨ c = 3) (w : World) :
    Calls Tryd.prog 47 #[opa nm b1 b2 b3 l m b4 c, sva op dst src jump count n k] w fun e w' => e = .returned (.tuple #[.int .i64 (Sp.lc c n), .int .i64 (Sp.mc c jump n)]) ∧ Below w.heap.size w w' := by
  unfold opa sva
  have hB : Hid (∀ o p, Below w.heap.size w ((w.alloc o).alloc p)) := fun o p => ((Below.refl _ _).alloc (Nat.le_refl _) o).alloc (by simp) p
  rcases hc with rfl | rfl | rfl | rfl
  · go_enter Tryd.func47, Tryd.ntmps47
    go_wp2
    go_ret2
    exact ⟨rfl, hB.out _ _⟩
  · go_enter Tryd.func47, Tryd.ntmps47
    go_wp2
    go_region
    all_goals (
      go_wp2
      go_ret2
      exact ⟨rfl, (hB.out _ _).drew⟩)
  · go_enter Tryd.func47, Tryd.ntmps47
    go_wp2
    go_region
    all_goals (
      go_wp2
      go_ret2
      exact ⟨rfl, (hB.out _ _).drew⟩)
  · go_enter Tryd.func47, Tryd.ntmps47
    go_wp2
    go_ret2
    exact ⟨rfl, hB.out _ _⟩
set_option maxHeartbeats 4000000 in
set_option maxRecDepth 100000 in
theorem sfits_c (nm : ByteArray) (b1 b2 b3 b4 : Bool) (l m c : Int) (op dst src jump count n k : Int) (hc : c = 0 ∨ c = 1 ∨ c = 2 ∨ c = 3) (w : World) :
    Calls Tryd.prog 37 #[opa nm b1 b2 b3 l m b4 c, sva op dst src jump count n k] w fun e w' => e = .returned (.bool (Sp.fitv b1 b2 b3 l m b4 c dst src jump count n k)) ∧ Below w.heap.size w w' := by
  obtain ⟨L, hL⟩ : ∃ L, Hid (Sp.lc c n = L) := ⟨_, (rfl : _ = _)⟩
  obtain ⟨M, hM⟩ : ∃ M, Hid (Sp.mc c jump n = M) := ⟨_, (rfl : _ = _)⟩
  have hcnt : Hid (∀ W, Calls Tryd.prog 47 #[opa nm b1 b2 b3 l m b4 c, sva op dst src jump count n k] W fun e w' => e = .returned (.tuple #[.int .i64 L, .int .i64 M]) ∧ Below W.heap.size W w') := fun W => by
    have := scounts_c nm b1 b2 b3 b4 l m c op dst src jump count n k hc W
    rw [hL.out, hM.out] at this
    exact this
  unfold Sp.fitv
  rw [hL.out, hM.out]
  obtain ⟨q1, h1⟩ : ∃ q, Hid (Sp.wi dst 0 262143 = q) := ⟨_, (rfl : _ = _)⟩
  obtain ⟨q2, h2⟩ : ∃ q, Hid (Sp.wo b1 src 0 262143 = q) := ⟨_, (rfl : _ = _)⟩
  obtain ⟨q3, h3⟩ : ∃ q, Hid (Sp.wo b2 jump 1 262144 = q) := ⟨_, (rfl : _ = _)⟩
  obtain ⟨q4, h4⟩ : ∃ q, Hid (Sp.wo b3 n l m = q) := ⟨_, (rfl : _ = _)⟩
  obtain ⟨q5, h5⟩ : ∃ q, Hid (Sp.wo b4 k 0 (wrap64 (n - 1)) = q) := ⟨_, (rfl : _ = _)⟩
  obtain ⟨q6, h6⟩ : ∃ q, Hid (Sp.wi count L M = q) := ⟨_, (rfl : _ = _)⟩
  rw [h1.out, h2.out, h3.out, h4.out, h5.out, h6.out]
  obtain ⟨wa, ewa⟩ : ∃ wa, Hid ((w.alloc (.cells #[.string nm, .bool b1, .bool b2, .bool b3, .int .i64 l, .int .i64 m, .bool b4, .int .i64 c] 68)).alloc (.cells #[.int .i64 op, .int .i64 dst, .int .i64 src, .int .i64 jump, .int .i64 count, .int .i64 n, .int .i64 k] 39) = wa) := ⟨_, (rfl : _ = _)⟩
  have Ba : Hid (Below w.heap.size w wa) := by rw [← ewa.out]; exact ((Below.refl _ _).alloc (Nat.le_refl _) _).alloc (by simp) _
  have X1 : Hid (Bop wa w.heap.size nm b1 b2 b3 l m b4 c) := by rw [← ewa.out]; exact (Bop.new w nm b1 b2 b3 l m b4 c).below ((Below.refl _ _).alloc (Nat.le_refl _) _)
  have X2 : Hid (Bst wa (w.heap.size + 1) op dst src jump count n k) := by
    show Bst _ _ _ _ _ _ _ _ _
    rw [← ewa.out]
    have := Bst.new (w.alloc (.cells #[.string nm, .bool b1, .bool b2, .bool b3, .int .i64 l, .int .i64 m, .bool b4, .int .i64 c] 68)) op dst src jump count n k
    simpa using this
  clear hL hM hc
  unfold opa sva at *
  go_enter Tryd.func37, Tryd.ntmps37
  go_upto_region 1 with fail
  rw [ewa.out]
  obtain ⟨x0, x1, x2, x3, x4, x5, x6, x7⟩ := X1.out
  obtain ⟨y0, y1, y2, y3, y4, y5, y6⟩ := X2.out
  go_wp2_with fail
  refine (hcnt.out wa).mono ?_
  rintro e w1 ⟨rfl, B1⟩
  have X3 := X1.out.below (B1.mono (Nat.le_refl _))
  have X4 := X2.out.below (B1.mono (Nat.le_refl _))
  have hB : Hid (Below w.heap.size w w1) := Ba.out.trans (B1.mono Ba.out.size)
  clear x0 x1 x2 x3 x4 x5 x6 x7 y0 y1 y2 y3 y4 y5 y6 X1 X2 Ba B1 hcnt ewa
  obtain ⟨x0, x1, x2, x3, x4, x5, x6, x7⟩ := X3
  obtain ⟨y0, y1, y2, y3, y4, y5, y6⟩ := X4
  go_wp2_with fail
  refine (swithin_c _ _ _ q1 h1.out w1).mono ?_
  rintro e w2 ⟨rfl, rfl⟩
  cases q1 with
  | false =>
    go_wp2_with fail
    go_ret
    exact ⟨by simp, hB.out⟩
  | true =>
  go_wp2_with fail
  refine (sor_c _ _ _ _ q2 h2.out w1).mono ?_
  rintro e w2 ⟨rfl, rfl⟩
  cases q2 with
  | false =>
    go_wp2_with fail
    go_ret
    exact ⟨by simp, hB.out⟩
  | true =>
  go_wp2_with fail
  refine (sor_c _ _ _ _ q3 h3.out w1).mono ?_
  rintro e w2 ⟨rfl, rfl⟩
  cases q3 with
  | false =>
    go_wp2_with fail
    go_ret
    exact ⟨by simp, hB.out⟩
  | true =>
  go_wp2_with fail
  refine (sor_c _ _ _ _ q4 h4.out w1).mono ?_
  rintro e w2 ⟨rfl, rfl⟩
  cases q4 with
  | false =>
    go_wp2_with fail
    go_ret
    exact ⟨by simp, hB.out⟩
  | true =>
  go_wp2_with fail
  refine (sor_c _ _ _ _ q5 h5.out w1).mono ?_
  rintro e w2 ⟨rfl, rfl⟩
  cases q5 with
  | false =>
    go_wp2_with fail
    go_ret
    exact ⟨by simp, hB.out⟩
  | true =>
  go_wp2_with fail
  refine (swithin_c _ _ _ q6 h6.out w1).mono ?_
  rintro e w2 ⟨rfl, rfl⟩
  go_wp2_with fail
  go_ret
  exact ⟨by simp, hB.out⟩
end Go.Proofs.YtedfjedmapimnaaDoor
