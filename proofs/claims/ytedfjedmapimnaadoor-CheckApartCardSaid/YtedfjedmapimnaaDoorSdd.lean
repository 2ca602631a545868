/-
  timbreref15: the table.
-/
import Derived.Test.YtedfjedmapimnaaDoorSp3
import Derived.Laws.Tables
import Derived.Deep.RegionWith
import Derived.Deep.RegionLaw
namespace Go.Proofs.YtedfjedmapimnaaDoor
open Flo Go.RowKit
theorem wpList_bsl {P : Program} {ops : Array Oper} {rest : List Oper} {o : Oper} {a : Act} {w w' : World} {Q : Exit → Act → World → Prop} (hg : o.guard = none) (t : TypeId) (n : Nat) (parts : Array (Nat × Operand)) (ho : o.op = .buildSlice t n parts) (v : Value)
    (hr : (Instr.buildSlice t n (parts.map fun (i, x) => (i, a.eval x))).run P w = .ok v w') (h : wpList P ops Q rest (a.put o.dst v) w') : wpList P ops Q (o :: rest) a w := by
  refine wpList_plain hg fun _ hK => ?_
  unfold Oper.wp execOp
  simp only [ho, Sem.run_bind, hr, Result.andThen_ok]
  exact hK _ _ h
def rowsA : Array Value := #[.string ⟨#[]⟩, .bool false, .bool false, .bool false, .bool false, .string ⟨#[103, 97, 116, 104, 101, 114]⟩, .bool true, .bool true, .bool false, .bool false, .string ⟨#[115, 99, 97, 116, 116, 101, 114]⟩, .bool true, .bool true, .bool false, .bool false, .string ⟨#[122, 101, 114, 111]⟩, .bool false, .bool false, .bool false, .bool false, .string ⟨#[116, 119, 105, 115, 116]⟩, .bool false, .bool false, .bool true, .bool true, .string ⟨#[102, 108, 121]⟩, .bool false, .bool true, .bool true, .bool false, .string ⟨#[100, 105, 114, 101, 99, 116]⟩, .bool true, .bool true, .bool true, .bool false, .string ⟨#[99, 104, 105, 114, 112]⟩, .bool false, .bool false, .bool true, .bool false, .string ⟨#[102, 105, 108, 108]⟩, .bool false, .bool false, .bool true, .bool false, .string ⟨#[116, 105, 109, 101, 115]⟩, .bool true, .bool false, .bool false, .bool false, .string ⟨#[99, 111, 110, 106]⟩, .bool false, .bool false, .bool false, .bool false, .string ⟨#[111, 118, 101, 114]⟩, .bool false, .bool false, .bool true, .bool false]
set_option maxHeartbeats 1000000 in
theorem rows_c (w : World) : Calls Tryd.prog 29 #[] w fun e w' => e = .returned (.slice (some ⟨w.heap.size, 0, none⟩) 12 12) ∧ w' = w.alloc (.cells rowsA 62) := by
  go_enter Tryd.func29, Tryd.ntmps29
  go_wp2_with (refine wpList_bsl (w' := w.alloc (.cells rowsA 62)) rfl 63 12 _ rfl (.slice (some ⟨w.heap.size, 0, none⟩) 12 12) (by kernel_rfl) ?_)
  go_ret
  exact ⟨rfl, rfl⟩
/-- the table in memory -/
def Rws (w : World) (g : Nat) : Prop := ∀ o, o < 12 → w.cell? ⟨g, o * 5, none⟩ = some (.string (nmb o)) ∧ w.cell? ⟨g, o * 5 + 1, none⟩ = some (.bool (Sp.hs o)) ∧ w.cell? ⟨g, o * 5 + 2, none⟩ = some (.bool (Sp.hj o)) ∧ w.cell? ⟨g, o * 5 + 3, none⟩ = some (.bool (Sp.hn o)) ∧ w.cell? ⟨g, o * 5 + 4, none⟩ = some (.bool (Sp.hk o))
theorem rws_new (w : World) : Rws (w.alloc (.cells rowsA 62)) w.heap.size := by
  have h : ∀ i, (w.alloc (.cells rowsA 62)).cell? ⟨w.heap.size, i, none⟩ = rowsA[i]? := fun i => by simp
  intro o ho
  rw [h, h, h, h, h]
  match o, ho with
  | 0, _ => exact ⟨rfl, rfl, rfl, rfl, rfl⟩
  | 1, _ => exact ⟨rfl, rfl, rfl, rfl, rfl⟩
  | 2, _ => exact ⟨rfl, rfl, rfl, rfl, rfl⟩
  | 3, _ => exact ⟨rfl, rfl, rfl, rfl, rfl⟩
  | 4, _ => exact ⟨rfl, rfl, rfl, rfl, rfl⟩
  | 5, _ => exact ⟨rfl, rfl, rfl, rfl, rfl⟩
  | 6, _ => exact ⟨rfl, rfl, rfl, rfl, rfl⟩
  | 7, _ => exact ⟨rfl, rfl, rfl, rfl, rfl⟩
  | 8, _ => exact ⟨rfl, rfl, rfl, rfl, rfl⟩
  | 9, _ => exact ⟨rfl, rfl, rfl, rfl, rfl⟩
  | 10, _ => exact ⟨rfl, rfl, rfl, rfl, rfl⟩
  | 11, _ => exact ⟨rfl, rfl, rfl, rfl, rfl⟩
theorem Rws.below {w w' : World} {g : Nat} (h : Rws w g) (hb : Below w.heap.size w w') : Rws w' g := fun o ho => by
  obtain ⟨h0, h1, h2, h3, h4⟩ := h o ho
  exact ⟨(hb.cell (cell_lt h0)).trans h0, (hb.cell (cell_lt h1)).trans h1, (hb.cell (cell_lt h2)).trans h2, (hb.cell (cell_lt h3)).trans h3, (hb.cell (cell_lt h4)).trans h4⟩
theorem rows2_c (w : World) : Calls Tryd.prog 29 #[] w fun e w' => e = .returned (.slice (some ⟨w.heap.size, 0, none⟩) 12 12) ∧ Rws w' w.heap.size ∧ Below w.heap.size w w' := by
  refine (rows_c w).mono ?_
  rintro e w' ⟨rfl, rfl⟩
  exact ⟨rfl, rws_new w, (Below.refl _ _).alloc (Nat.le_refl _) _⟩
end Go.Proofs.YtedfjedmapimnaaDoor
/-
  timbreref15: Name, Op.
-/
namespace Go.Proofs.YtedfjedmapimnaaDoor
open Flo Go.RowKit
set_option maxHeartbeats 1000000 in
theorem dname_c (x : Int) (w : World) :
    Calls Tryd.prog 27 #[.int .i64 x] w fun e w' => e = .returned (.tuple #[.string (nmk x), .bool (Sp.kn x)]) ∧ Below w.heap.size w w' := by
  by_cases h1 : x < 1
  · have hf : Hid (Sp.kn x = false) := by unfold Sp.kn; rw [decide_eq_false (by omega), Bool.false_and]; rfl
    have hk : Hid (nmk x = ⟨#[]⟩) := by unfold nmk; rw [hf.out]; rfl
    rw [hf.out, hk.out]
    go_enter Tryd.func27, Tryd.ntmps27
    go_wp2
    go_ret2
    exact ⟨rfl, Below.refl _ _⟩
  · have q1 : decide (x < 1) = false := decide_eq_false h1
    by_cases h2 : 11 < x
    · have hf : Hid (Sp.kn x = false) := by unfold Sp.kn; rw [decide_eq_false (by omega : ¬ x ≤ 11), Bool.and_false]; rfl
      have hk : Hid (nmk x = ⟨#[]⟩) := by unfold nmk; rw [hf.out]; rfl
      rw [hf.out, hk.out]
      go_enter Tryd.func27, Tryd.ntmps27
      go_wp2
      go_ret2
      exact ⟨rfl, Below.refl _ _⟩
    · obtain ⟨o, rfl⟩ : ∃ o : Nat, x = (o : Int) := ⟨x.toNat, by omega⟩
      have hf : Hid (Sp.kn (o : Int) = true) := Sp.kn_iff.2 ⟨by omega, by omega⟩
      have hk : Hid (nmk (o : Int) = nmb o) := by unfold nmk; rw [hf.out]; rfl
      rw [hf.out, hk.out]
      have q2 : decide ((11 : Int) < (o : Int)) = false := decide_eq_false h2
      have q3 : (o : Int) < 12 := by omega
      have q4 : o < 12 := by omega
      clear h1 h2
      go_enter Tryd.func27, Tryd.ntmps27
      go_wp2_with fail
      refine (rows2_c _).mono ?_
      rintro e w1 ⟨rfl, R1, B1⟩
      obtain ⟨z0, _⟩ := R1 o q4
      have hB : Hid (Below w.heap.size w w1) := B1
      clear B1 R1
      go_wp2
      go_ret2
      exact ⟨rfl, hB.out⟩
end Go.Proofs.YtedfjedmapimnaaDoor
/-
  timbreref15: within, number, Form.
-/
namespace Go.Proofs.YtedfjedmapimnaaDoor
open Flo Go.RowKit
theorem dwithin_c (x lo hi : Int) (b : Bool) (hb : Sp.wi x lo hi = b) (w : World) :
    Calls Tryd.prog 28 #[.int .i64 x, .int .i64 lo, .int .i64 hi] w fun e w' => e = .returned (.bool b) ∧ w = w' := by
  subst hb
  by_cases h1 : lo ≤ x
  · by_cases h2 : x ≤ hi
    · have hf : Hid (Sp.wi x lo hi = true) := Sp.wi_iff.2 ⟨h1, h2⟩
      rw [hf.out]
      go_enter Tryd.func28, Tryd.ntmps28
      go_wp2
      go_ret
      exact ⟨rfl, rfl⟩
    · have hf : Hid (Sp.wi x lo hi = false) := by unfold Sp.wi; rw [decide_eq_false h2, Bool.and_false]; rfl
      rw [hf.out]
      have q2 : decide (x ≤ hi) = false := decide_eq_false h2
      go_enter Tryd.func28, Tryd.ntmps28
      go_wp2
      go_ret
      exact ⟨rfl, rfl⟩
  · have hf : Hid (Sp.wi x lo hi = false) := by unfold Sp.wi; rw [decide_eq_false h1, Bool.false_and]; rfl
    rw [hf.out]
    have q1 : decide (lo ≤ x) = false := decide_eq_false h1
    go_enter Tryd.func28, Tryd.ntmps28
    go_wp2
    go_ret
    exact ⟨rfl, rfl⟩
/-- a Bool of a comparison -/
theorem dnum_ret {b c : Bool} (h : b = c) : Ending.returned (.bool b) = .returned (.bool c) := by rw [h]
set_option maxHeartbeats 4000000 in
theorem dnumber_c (s : Sp.St) (w : World) :
    Calls Tryd.prog 30 #[sv s] w fun e w' => e = .returned (.bool (Sp.num s)) ∧ Below w.heap.size w w' := by
  obtain ⟨op, dst, src, jump, count, n, k⟩ := s
  obtain ⟨wa, ewa⟩ : ∃ wa, Hid (w.alloc (.cells #[.int .i64 op, .int .i64 dst, .int .i64 src, .int .i64 jump, .int .i64 count, .int .i64 n, .int .i64 k] 39) = wa) := ⟨_, (rfl : _ = _)⟩
  have Ba : Hid (Below w.heap.size w wa) := by rw [← ewa.out]; exact (Below.refl _ _).alloc (Nat.le_refl _) _
  have X2 : Bst wa w.heap.size op dst src jump count n k := by rw [← ewa.out]; exact Bst.new w op dst src jump count n k
  obtain ⟨y0, y1, y2, y3, y4, y5, y6⟩ := X2
  unfold sv sva
  by_cases h4 : op = 4
  · subst h4
    obtain ⟨b, hb⟩ : ∃ b, Hid (Sp.wi n 1 16384 = b) := ⟨_, (rfl : _ = _)⟩
    have hf : Hid (Sp.num ⟨4, dst, src, jump, count, n, k⟩ = (b && Sp.wi k 0 (n - 1))) := by show _ = _; rw [← hb.out]; rfl
    rw [hf.out]
    have hw : b = true → wrap64 (n - 1) = n - 1 ∧ wrap64 (wrap64 (2 * n) - 1) = 2 * n - 1 := fun e => Sp.w1 (Sp.wi_iff.1 (hb.out.trans e))
    have hwr : wrap64 (2 * n) = wrap64 (2 * n) := rfl
    go_enter Tryd.func30, Tryd.ntmps30
    go_upto_region 1 with fail
    rw [ewa.out]
    go_wp2_with fail
    refine (dwithin_c _ _ _ b hb.out wa).mono ?_
    rintro e w1 ⟨rfl, rfl⟩
    cases b with
    | false =>
      go_wp2_with fail
      go_ret
      exact ⟨rfl, Ba.out⟩
    | true =>
      obtain ⟨e1, e2⟩ := hw rfl
      clear hw hwr hf hb
      go_wp2_with fail
      rw [e1]
      refine (dwithin_c _ _ _ _ rfl wa).mono ?_
      rintro e w1 ⟨rfl, rfl⟩
      go_wp2_with fail
      go_ret
      exact ⟨dnum_ret (by simp), Ba.out⟩
  by_cases h5 : op = 5
  · subst h5
    obtain ⟨b, hb⟩ : ∃ b, Hid (Sp.wi n 2 5 = b) := ⟨_, (rfl : _ = _)⟩
    have hf : Hid (Sp.num ⟨5, dst, src, jump, count, n, k⟩ = (b && decide (count ≤ jump))) := by show _ = _; rw [← hb.out]; rfl
    rw [hf.out]
    clear hf
    go_enter Tryd.func30, Tryd.ntmps30
    go_upto_region 1 with fail
    rw [ewa.out]
    go_wp2_with fail
    refine (dwithin_c _ _ _ b hb.out wa).mono ?_
    rintro e w1 ⟨rfl, rfl⟩
    cases b with
    | false =>
      go_wp2_with fail
      go_ret
      exact ⟨rfl, Ba.out⟩
    | true =>
      clear hb
      generalize hz : decide (count ≤ jump) = z
      go_wp2_with fail
      go_ret
      exact ⟨dnum_ret (by simp [hz]), Ba.out⟩
  by_cases h6 : op = 6
  · subst h6
    obtain ⟨b, hb⟩ : ∃ b, Hid (Sp.wi n 1 64 = b) := ⟨_, (rfl : _ = _)⟩
    have hf : Hid (Sp.num ⟨6, dst, src, jump, count, n, k⟩ = (b && decide (count ≤ n))) := by show _ = _; rw [← hb.out]; rfl
    rw [hf.out]
    clear hf
    go_enter Tryd.func30, Tryd.ntmps30
    go_upto_region 1 with fail
    rw [ewa.out]
    go_wp2_with fail
    refine (dwithin_c _ _ _ b hb.out wa).mono ?_
    rintro e w1 ⟨rfl, rfl⟩
    cases b with
    | false =>
      go_wp2_with fail
      go_ret
      exact ⟨rfl, Ba.out⟩
    | true =>
      clear hb
      generalize hz : decide (count ≤ n) = z
      go_wp2_with fail
      go_ret
      exact ⟨dnum_ret (by simp [hz]), Ba.out⟩
  by_cases h7 : op = 7
  · subst h7
    obtain ⟨b, hb⟩ : ∃ b, Hid (Sp.wi n 1 16384 = b) := ⟨_, (rfl : _ = _)⟩
    have hf : Hid (Sp.num ⟨7, dst, src, jump, count, n, k⟩ = (b && decide (count ≤ n))) := by show _ = _; rw [← hb.out]; rfl
    rw [hf.out]
    clear hf
    go_enter Tryd.func30, Tryd.ntmps30
    go_upto_region 1 with fail
    rw [ewa.out]
    go_wp2_with fail
    refine (dwithin_c _ _ _ b hb.out wa).mono ?_
    rintro e w1 ⟨rfl, rfl⟩
    cases b with
    | false =>
      go_wp2_with fail
      go_ret
      exact ⟨rfl, Ba.out⟩
    | true =>
      clear hb
      generalize hz : decide (count ≤ n) = z
      go_wp2_with fail
      go_ret
      exact ⟨dnum_ret (by simp [hz]), Ba.out⟩
  by_cases h8 : op = 8
  · subst h8
    obtain ⟨b, hb⟩ : ∃ b, Hid (Sp.wi n 1 16384 = b) := ⟨_, (rfl : _ = _)⟩
    have hf : Hid (Sp.num ⟨8, dst, src, jump, count, n, k⟩ = (b && Sp.wi count (2 * n - 1) 16384)) := by show _ = _; rw [← hb.out]; rfl
    rw [hf.out]
    have hw : b = true → wrap64 (n - 1) = n - 1 ∧ wrap64 (wrap64 (2 * n) - 1) = 2 * n - 1 := fun e => Sp.w1 (Sp.wi_iff.1 (hb.out.trans e))
    have hwr : wrap64 (2 * n) = wrap64 (2 * n) := rfl
    go_enter Tryd.func30, Tryd.ntmps30
    go_upto_region 1 with fail
    rw [ewa.out]
    go_wp2_with fail
    refine (dwithin_c _ _ _ b hb.out wa).mono ?_
    rintro e w1 ⟨rfl, rfl⟩
    cases b with
    | false =>
      go_wp2_with fail
      go_ret
      exact ⟨rfl, Ba.out⟩
    | true =>
      obtain ⟨e1, e2⟩ := hw rfl
      clear hw hwr hf hb
      obtain ⟨m, hm⟩ : ∃ m, Hid (2 * n - 1 = m) := ⟨_, (rfl : _ = _)⟩
      obtain ⟨u, hu⟩ : ∃ u, Hid (wrap64 (2 * n) = u) := ⟨_, (rfl : _ = _)⟩
      go_wp2_with fail
      rw [e2]
      refine (dwithin_c _ _ _ _ rfl wa).mono ?_
      rintro e w1 ⟨rfl, rfl⟩
      go_wp2_with fail
      go_ret
      exact ⟨dnum_ret (by simp), Ba.out⟩
  by_cases h11 : op = 11
  · subst h11
    obtain ⟨b, hb⟩ : ∃ b, Hid (Sp.wi n 1 16384 = b) := ⟨_, (rfl : _ = _)⟩
    have hf : Hid (Sp.num ⟨11, dst, src, jump, count, n, k⟩ = b) := by show _ = _; rw [← hb.out]; rfl
    rw [hf.out]
    go_enter Tryd.func30, Tryd.ntmps30
    go_upto_region 1 with fail
    rw [ewa.out]
    go_wp2_with fail
    refine (dwithin_c _ _ _ b hb.out wa).mono ?_
    rintro e w1 ⟨rfl, rfl⟩
    go_wp2_with fail
    go_ret
    exact ⟨rfl, Ba.out⟩
  have hf : Hid (Sp.num ⟨op, dst, src, jump, count, n, k⟩ = true) := by show _ = _; unfold Sp.num; simp only [h4, h5, h6, h7, h8, h11, if_false]
  rw [hf.out]
  have q4 : (op == 4) = false := beq_eq_false_iff_ne.2 h4
  have q5 : (op == 5) = false := beq_eq_false_iff_ne.2 h5
  have q6 : (op == 6) = false := beq_eq_false_iff_ne.2 h6
  have q7 : (op == 7) = false := beq_eq_false_iff_ne.2 h7
  have q8 : (op == 8) = false := beq_eq_false_iff_ne.2 h8
  have q11 : (op == 11) = false := beq_eq_false_iff_ne.2 h11
  clear h4 h5 h6 h7 h8 h11
  go_enter Tryd.func30, Tryd.ntmps30
  go_upto_region 1 with fail
  rw [ewa.out]
  go_wp2_with fail
  go_ret
  exact ⟨rfl, Ba.out⟩
end Go.Proofs.YtedfjedmapimnaaDoor
/-
  timbreref15: Form.
-/
namespace Go.Proofs.YtedfjedmapimnaaDoor
open Flo Go.RowKit
/-- Form's answer -/
def fnn (b : Bool) : Int := bif b then 0 else 9
/-- behind the row's load -/
structure CutF (w wx : World) (g : Nat) (o : Nat) (op dst src jump count n k : Int) : Prop where
  st : Bst wx w.heap.size op dst src jump count n k
  c1 : wx.cell? ⟨g, 1, none⟩ = some (.bool (Sp.hs o))
  c2 : wx.cell? ⟨g, 2, none⟩ = some (.bool (Sp.hj o))
  c3 : wx.cell? ⟨g, 3, none⟩ = some (.bool (Sp.hn o))
  c4 : wx.cell? ⟨g, 4, none⟩ = some (.bool (Sp.hk o))
  be : Below w.heap.size w wx
theorem cutF_new {w w1 w5 : World} {o : Nat} {op dst src jump count n k : Int} (XH : Hid (Bst w1 w.heap.size op dst src jump count n k)) (B7 : Hid (Below w1.heap.size w1 w5)) (hB : Hid (Below w.heap.size w w1)) :
    Hid (CutF w (w5.alloc (.cells #[.string (nmb o), .bool (Sp.hs o), .bool (Sp.hj o), .bool (Sp.hn o), .bool (Sp.hk o)] 62)) w5.heap.size o op dst src jump count n k) :=
  ⟨XH.out.below (B7.out.alloc B7.out.size _), by simp, by simp, by simp, by simp, (hB.out.trans (B7.out.mono hB.out.size)).alloc (Nat.le_trans hB.out.size B7.out.size) _⟩
theorem cutF_set {w w1 w5 : World} {o : Nat} {op dst src jump count n k : Int} (XH : Hid (Bst w1 w.heap.size op dst src jump count n k)) (B7 : Hid (Below w1.heap.size w1 w5)) (hB : Hid (Below w.heap.size w w1))
    {v1 v2 v3 v4 : Value} (x1 : w5.cell? ⟨w1.heap.size, 1, none⟩ = some v1) (x2 : w5.cell? ⟨w1.heap.size, 2, none⟩ = some v2) (x3 : w5.cell? ⟨w1.heap.size, 3, none⟩ = some v3) (x4 : w5.cell? ⟨w1.heap.size, 4, none⟩ = some v4) :
    Hid (CutF w (((((w5.setCell ⟨w1.heap.size, 0, none⟩ (.string (nmb o))).setCell ⟨w1.heap.size, 1, none⟩ (.bool (Sp.hs o))).setCell ⟨w1.heap.size, 2, none⟩ (.bool (Sp.hj o))).setCell ⟨w1.heap.size, 3, none⟩ (.bool (Sp.hn o))).setCell ⟨w1.heap.size, 4, none⟩ (.bool (Sp.hk o))) w1.heap.size o op dst src jump count n k) := by
  have B9 : Below w1.heap.size w1 (((((w5.setCell ⟨w1.heap.size, 0, none⟩ (.string (nmb o))).setCell ⟨w1.heap.size, 1, none⟩ (.bool (Sp.hs o))).setCell ⟨w1.heap.size, 2, none⟩ (.bool (Sp.hj o))).setCell ⟨w1.heap.size, 3, none⟩ (.bool (Sp.hn o))).setCell ⟨w1.heap.size, 4, none⟩ (.bool (Sp.hk o))) :=
    ((((B7.out.setCell (Nat.le_refl _) _).setCell (Nat.le_refl _) _).setCell (Nat.le_refl _) _).setCell (Nat.le_refl _) _).setCell (Nat.le_refl _) _
  refine ⟨XH.out.below B9, ?_, ?_, ?_, ?_, hB.out.trans (B9.mono hB.out.size)⟩
  · simp [World.cell?_setCell_other, World.cell?_setCell_same, x1]
  · simp [World.cell?_setCell_other, World.cell?_setCell_same, x2]
  · simp [World.cell?_setCell_other, World.cell?_setCell_same, x3]
  · simp [World.cell?_setCell_other, World.cell?_setCell_same, x4]
set_option maxHeartbeats 8000000 in
set_option maxRecDepth 100000 in
theorem dform_c (s : Sp.St) (w : World) :
    Calls Tryd.prog 19 #[sv s] w fun e w' => e = .returned (.int .i64 (fnn (Sp.fm s))) ∧ Below w.heap.size w w' := by
  rw [← Sp.dfm_eq]
  obtain ⟨op, dst, src, jump, count, n, k⟩ := s
  obtain ⟨wa, ewa⟩ : ∃ wa, Hid (w.alloc (.cells #[.int .i64 op, .int .i64 dst, .int .i64 src, .int .i64 jump, .int .i64 count, .int .i64 n, .int .i64 k] 39) = wa) := ⟨_, (rfl : _ = _)⟩
  have Ba : Hid (Below w.heap.size w wa) := by rw [← ewa.out]; exact (Below.refl _ _).alloc (Nat.le_refl _) _
  have X2 : Hid (Bst wa w.heap.size op dst src jump count n k) := by show Bst _ _ _ _ _ _ _ _ _; rw [← ewa.out]; exact Bst.new w op dst src jump count n k
  have hnm : Hid (Calls Tryd.prog 27 #[.int .i64 op] wa fun e w' => e = .returned (.tuple #[.string (nmk op), .bool (Sp.kn op)]) ∧ Below wa.heap.size wa w') := dname_c op wa
  have hnu : Hid (∀ W, Calls Tryd.prog 30 #[sv ⟨op, dst, src, jump, count, n, k⟩] W fun e w' => e = .returned (.bool (Sp.num ⟨op, dst, src, jump, count, n, k⟩)) ∧ Below W.heap.size W w') := fun W => dnumber_c _ W
  unfold Sp.dfm
  simp only
  obtain ⟨kb, hkb⟩ : ∃ b, Hid (Sp.kn op = b) := ⟨_, (rfl : _ = _)⟩
  obtain ⟨b1, hb1⟩ : ∃ b, Hid (Sp.wi dst 0 262143 = b) := ⟨_, (rfl : _ = _)⟩
  obtain ⟨b2, hb2⟩ : ∃ b, Hid (Sp.wi count 1 262144 = b) := ⟨_, (rfl : _ = _)⟩
  obtain ⟨nb, hnb⟩ : ∃ b, Hid (Sp.num ⟨op, dst, src, jump, count, n, k⟩ = b) := ⟨_, (rfl : _ = _)⟩
  obtain ⟨gb, hgb⟩ : ∃ b, Hid (Sp.dgood op.toNat ⟨op, dst, src, jump, count, n, k⟩ = b) := ⟨_, (rfl : _ = _)⟩
  rw [hkb.out] at hnm
  rw [hnb.out] at hnu
  rw [hkb.out, hb1.out, hb2.out, hnb.out, hgb.out]
  generalize nmk op = nm at hnm
  unfold sv sva at *
  go_enter Tryd.func19, Tryd.ntmps19
  go_upto_region 1 with fail
  rw [ewa.out]
  obtain ⟨y0, y1, y2, y3, y4, y5, y6⟩ := X2.out
  go_wp2_with fail
  refine hnm.out.mono ?_
  rintro e w1 ⟨rfl, B1⟩
  have Xs := X2.out.below B1
  have hB1 : Hid (Below w.heap.size w w1) := Ba.out.trans (B1.mono Ba.out.size)
  clear y0 y1 y2 y3 y4 y5 y6 B1 Ba X2 ewa hnm
  have XH : Hid (Bst w1 w.heap.size op dst src jump count n k) := Xs
  obtain ⟨y0, y1, y2, y3, y4, y5, y6⟩ := Xs
  cases kb with
  | false =>
    go_wp2_with fail
    go_ret
    exact ⟨rfl, hB1.out⟩
  | true =>
  go_wp2_with fail
  refine (dwithin_c _ _ _ b1 hb1.out w1).mono ?_
  rintro e w2 ⟨rfl, rfl⟩
  cases b1 with
  | false =>
    go_wp2_with fail
    go_ret
    exact ⟨rfl, hB1.out⟩
  | true =>
  go_wp2_with fail
  refine (dwithin_c _ _ _ b2 hb2.out w1).mono ?_
  rintro e w2 ⟨rfl, rfl⟩
  cases b2 with
  | false =>
    go_wp2_with fail
    go_ret
    exact ⟨rfl, hB1.out⟩
  | true =>
  obtain ⟨o, rfl⟩ : ∃ o : Nat, op = (o : Int) := ⟨op.toNat, by have := Sp.kn_iff.1 hkb.out; omega⟩
  have q4 : o < 12 := by have := Sp.kn_iff.1 hkb.out; omega
  have q3 : (o : Int) < 12 := by omega
  rw [Int.toNat_natCast] at hgb
  go_upto_region 4 with fail
  go_cut [5] (fun r wx => ∃ g : Nat, r = .pointer (some ⟨g, 0, none⟩) ∧ Hid (CutF w wx g o o dst src jump count n k))
  case first =>
    have yd0 : ∀ X, (w1.alloc X).cell? ⟨w.heap.size, 0, none⟩ = some (.int .i64 (o : Int)) := fun X => cell_alloc y0 X
    first
    | (go_region_with (first
        | (go_at_call 29
           refine (rows2_c w1.drew).mono ?_
           rintro e w5 ⟨rfl, R5, B5⟩
           have R6 : Rws w5 w1.heap.size := R5
           obtain ⟨z0, z1, z2, z3, z4⟩ := R6 o q4
           clear R6
           have zz0 := fun X => cell_alloc z0 X
           have zz1 := fun X => cell_alloc z1 X
           have zz2 := fun X => cell_alloc z2 X
           have zz3 := fun X => cell_alloc z3 X
           have zz4 := fun X => cell_alloc z4 X
           have B6 : Below w1.heap.size w1 w5 := (Below.refl _ _).drew.trans B5
           have B7 : Hid (Below w1.heap.size w1 w5) := B6
           obtain ⟨y0, y1, y2, y3, y4, y5, y6⟩ := XH.out.below B6
           have yy0 := fun X => cell_alloc y0 X
           clear B5 B6 R5)
        | (go_at_call 29
           refine (rows2_c (w1.alloc (.cells #[.string ⟨#[]⟩, .bool false, .bool false, .bool false, .bool false] 62)).drew).mono ?_
           rintro e w5 ⟨rfl, R5, B5⟩
           have R6 : Rws w5 (w1.heap.size + 1) := by simpa [World.drew] using R5
           obtain ⟨z0, z1, z2, z3, z4⟩ := R6 o q4
           clear R6
           have B6 : Below w1.heap.size w1 w5 := ((Below.refl _ _).alloc (Nat.le_refl _) _).drew.trans (B5.mono (by simp [World.drew]))
           have B7 : Hid (Below w1.heap.size w1 w5) := B6
           obtain ⟨y0, y1, y2, y3, y4, y5, y6⟩ := XH.out.below B6
           have B8 : Hid (Below (w1.alloc (.cells #[.string ⟨#[]⟩, .bool false, .bool false, .bool false, .bool false] 62)).drew.heap.size (w1.alloc (.cells #[.string ⟨#[]⟩, .bool false, .bool false, .bool false, .bool false] 62)).drew w5) := B5
           have x0 := (B5.cell (p := ⟨w1.heap.size, 0, none⟩) (by simp [World.drew])).trans (by simp : (w1.alloc (.cells #[.string ⟨#[]⟩, .bool false, .bool false, .bool false, .bool false] 62)).drew.cell? ⟨w1.heap.size, 0, none⟩ = some (.string ⟨#[]⟩))
           have x1 := (B5.cell (p := ⟨w1.heap.size, 1, none⟩) (by simp [World.drew])).trans (by simp : (w1.alloc (.cells #[.string ⟨#[]⟩, .bool false, .bool false, .bool false, .bool false] 62)).drew.cell? ⟨w1.heap.size, 1, none⟩ = some (.bool false))
           have x2 := (B5.cell (p := ⟨w1.heap.size, 2, none⟩) (by simp [World.drew])).trans (by simp : (w1.alloc (.cells #[.string ⟨#[]⟩, .bool false, .bool false, .bool false, .bool false] 62)).drew.cell? ⟨w1.heap.size, 2, none⟩ = some (.bool false))
           have x3 := (B5.cell (p := ⟨w1.heap.size, 3, none⟩) (by simp [World.drew])).trans (by simp : (w1.alloc (.cells #[.string ⟨#[]⟩, .bool false, .bool false, .bool false, .bool false] 62)).drew.cell? ⟨w1.heap.size, 3, none⟩ = some (.bool false))
           have x4 := (B5.cell (p := ⟨w1.heap.size, 4, none⟩) (by simp [World.drew])).trans (by simp : (w1.alloc (.cells #[.string ⟨#[]⟩, .bool false, .bool false, .bool false, .bool false] 62)).drew.cell? ⟨w1.heap.size, 4, none⟩ = some (.bool false))
           have f0 : w5.frozen? ⟨w1.heap.size, 0, none⟩ = false := (World.frozen?_of_block (a := ⟨w1.heap.size, 0, none⟩) (B5.block w1.heap.size (by simp [World.drew]))).trans (by simp : (w1.alloc (.cells #[.string ⟨#[]⟩, .bool false, .bool false, .bool false, .bool false] 62)).drew.frozen? ⟨w1.heap.size, 0, none⟩ = false)
           have f1 : w5.frozen? ⟨w1.heap.size, 1, none⟩ = false := (World.frozen?_of_block (a := ⟨w1.heap.size, 1, none⟩) (B5.block w1.heap.size (by simp [World.drew]))).trans (by simp : (w1.alloc (.cells #[.string ⟨#[]⟩, .bool false, .bool false, .bool false, .bool false] 62)).drew.frozen? ⟨w1.heap.size, 1, none⟩ = false)
           have f2 : w5.frozen? ⟨w1.heap.size, 2, none⟩ = false := (World.frozen?_of_block (a := ⟨w1.heap.size, 2, none⟩) (B5.block w1.heap.size (by simp [World.drew]))).trans (by simp : (w1.alloc (.cells #[.string ⟨#[]⟩, .bool false, .bool false, .bool false, .bool false] 62)).drew.frozen? ⟨w1.heap.size, 2, none⟩ = false)
           have f3 : w5.frozen? ⟨w1.heap.size, 3, none⟩ = false := (World.frozen?_of_block (a := ⟨w1.heap.size, 3, none⟩) (B5.block w1.heap.size (by simp [World.drew]))).trans (by simp : (w1.alloc (.cells #[.string ⟨#[]⟩, .bool false, .bool false, .bool false, .bool false] 62)).drew.frozen? ⟨w1.heap.size, 3, none⟩ = false)
           have f4 : w5.frozen? ⟨w1.heap.size, 4, none⟩ = false := (World.frozen?_of_block (a := ⟨w1.heap.size, 4, none⟩) (B5.block w1.heap.size (by simp [World.drew]))).trans (by simp : (w1.alloc (.cells #[.string ⟨#[]⟩, .bool false, .bool false, .bool false, .bool false] 62)).drew.frozen? ⟨w1.heap.size, 4, none⟩ = false)
           clear B5 B6 R5)))
    | fail
    all_goals (
      go_wp2_with fail
      go_meet
      case rel =>
        refine ⟨_, rfl, ?_⟩
        first
        | with_reducible exact cutF_new XH B7 hB1
        | with_reducible exact cutF_set XH B7 hB1 x1 x2 x3 x4)
  case rest =>
    obtain ⟨g, rfl, hC⟩ := hcut
    clear y0 y1 y2 y3 y4 y5 y6 XH hB1
    obtain ⟨y0, y1, y2, y3, y4, y5, y6⟩ := hC.out.st
    have z1 := hC.out.c1
    have z2 := hC.out.c2
    have z3 := hC.out.c3
    have z4 := hC.out.c4
    have hBc : Hid (Below w.heap.size w wc) := hC.out.be
    unfold Sp.dgood at hgb
    simp only at hgb
    obtain ⟨bS, hbS⟩ : ∃ b, Hid (Sp.wi src 0 262143 = b) := ⟨_, (rfl : _ = _)⟩
    obtain ⟨bJ, hbJ⟩ : ∃ b, Hid (Sp.wi jump 1 262144 = b) := ⟨_, (rfl : _ = _)⟩
    obtain ⟨zS, hzS⟩ : ∃ b, (src == 0) = b := ⟨_, rfl⟩
    obtain ⟨zJ, hzJ⟩ : ∃ b, (jump == 0) = b := ⟨_, rfl⟩
    obtain ⟨zN, hzN⟩ : ∃ b, (n == 0) = b := ⟨_, rfl⟩
    obtain ⟨zK, hzK⟩ : ∃ b, (k == 0) = b := ⟨_, rfl⟩
    rw [hbS.out, hbJ.out, hzS, hzJ, hzN, hzK] at hgb
    generalize Sp.hs o = f1 at z1 hgb
    generalize Sp.hj o = f2 at z2 hgb
    generalize Sp.hn o = f3 at z3 hgb
    generalize Sp.hk o = f4 at z4 hgb
    clear hkb hnb hC q3 q4
    obtain ⟨g1, hg1⟩ : ∃ b, Hid ((bS && (f1 || zS)) = b) := ⟨_, (rfl : _ = _)⟩
    obtain ⟨g2, hg2⟩ : ∃ b, Hid ((g1 && (bif f2 then bJ else zJ)) = b) := ⟨_, (rfl : _ = _)⟩
    obtain ⟨g3, hg3⟩ : ∃ b, Hid ((g2 && (f3 || zN)) = b) := ⟨_, (rfl : _ = _)⟩
    rw [hg1.out, hg2.out, hg3.out] at hgb
    go_upto_region 5 with fail
    go_cut [6] (fun r wx => r = .bool g1 ∧ wx = wc)
    case first =>
      go_wp2_with fail
      refine (dwithin_c _ _ _ bS hbS.out wc).mono ?_
      rintro e w2 ⟨rfl, rfl⟩
      cases bS with
      | false =>
        go_wp2_with fail
        go_meet
        case rel => exact ⟨congrArg Value.bool hg1.out, rfl⟩
      | true =>
      cases f1 with
      | true =>
        go_wp2_with fail
        go_meet
        case rel => exact ⟨congrArg Value.bool hg1.out, rfl⟩
      | false =>
        go_wp2_with fail
        go_meet
        case rel => exact ⟨congrArg Value.bool hg1.out, rfl⟩
    case rest =>
      obtain ⟨rfl, rfl⟩ := hcut
      clear hg1 hbS hzS z1
      go_upto_region 6 with fail
      go_cut [45] (fun r wx => r = .bool f2 ∧ wx = wc)
      case first =>
        go_wp2_with fail
        go_meet
        case rel => exact ⟨rfl, rfl⟩
      case rest =>
        obtain ⟨rfl, rfl⟩ := hcut
        go_upto_if 45 with fail
        go_cut [6] (fun r wx => r = .bool g2 ∧ wx = wc)
        case first =>
          cases f2 with
          | true =>
            cases g1 with
            | true =>
              go_wp2_with fail
              refine (dwithin_c _ _ _ bJ hbJ.out wc).mono ?_
              rintro e w2 ⟨rfl, rfl⟩
              go_wp2_with fail
              go_meet
              case rel => exact ⟨congrArg Value.bool hg2.out, rfl⟩
            | false =>
              go_wp2_with fail
              go_meet
              case rel => exact ⟨congrArg Value.bool hg2.out, rfl⟩
          | false =>
            cases g1 with
            | true =>
              go_wp2_with fail
              go_meet
              case rel => exact ⟨congrArg Value.bool hg2.out, rfl⟩
            | false =>
              go_wp2_with fail
              go_meet
              case rel => exact ⟨congrArg Value.bool hg2.out, rfl⟩
        case rest =>
          obtain ⟨rfl, rfl⟩ := hcut
          clear hg2 hbJ hzJ z2
          go_upto_region 9 with fail
          go_cut [6] (fun r wx => r = .bool gb ∧ wx = wc)
          case first =>
            cases g2 with
            | false =>
              go_wp2_with fail
              go_meet
              case rel => exact ⟨congrArg Value.bool (by rw [← hgb.out, ← hg3.out]; rfl), rfl⟩
            | true =>
              cases f3 with
              | true =>
                cases f4 with
                | true =>
                  go_wp2_with fail
                  go_meet
                  case rel => exact ⟨congrArg Value.bool (by rw [← hgb.out, ← hg3.out]; rfl), rfl⟩
                | false =>
                  go_wp2_with fail
                  go_meet
                  case rel => exact ⟨congrArg Value.bool (by rw [← hgb.out, ← hg3.out]; rfl), rfl⟩
              | false =>
                cases zN with
                | true =>
                  cases f4 with
                  | true =>
                    go_wp2_with fail
                    go_meet
                    case rel => exact ⟨congrArg Value.bool (by rw [← hgb.out, ← hg3.out]; rfl), rfl⟩
                  | false =>
                    go_wp2_with fail
                    go_meet
                    case rel => exact ⟨congrArg Value.bool (by rw [← hgb.out, ← hg3.out]; rfl), rfl⟩
                | false =>
                  go_wp2_with fail
                  go_meet
                  case rel => exact ⟨congrArg Value.bool (by rw [← hgb.out, ← hg3.out]; rfl), rfl⟩
          case rest =>
            obtain ⟨rfl, rfl⟩ := hcut
            clear hgb hg3 hzN hzK z3 z4
            cases gb with
            | false =>
              go_wp2_with fail
              go_ret
              exact ⟨rfl, hBc.out⟩
            | true =>
              go_wp2_with fail
              refine (hnu.out wc).mono ?_
              rintro e w2 ⟨rfl, B2⟩
              have hB2 : Hid (Below w.heap.size w w2) := hBc.out.trans (B2.mono hBc.out.size)
              clear B2 y0 y1 y2 y3 y4 y5 y6
              cases nb with
              | false =>
                go_wp2_with fail
                go_ret
                exact ⟨rfl, hB2.out⟩
              | true =>
                go_wp2_with fail
                go_ret
                exact ⟨rfl, hB2.out⟩
end Go.Proofs.YtedfjedmapimnaaDoor
