/-
  timbreref15: the table.
-/
import Derived.Test.YtmnbpmmilfkjiaaDoorSp3
import Derived.Laws.Tables
import Derived.Deep.RegionWith
import Derived.Deep.RegionLaw
import Derived.Test.YtmnbpmmilfkjiaaDoorKd1
namespace Go.Proofs.YtmnbpmmilfkjiaaDoor
open Flo Go.RowKit
theorem wpList_bsl {P : Program} {ops : Array Oper} {rest : List Oper} {o : Oper} {a : Act} {w w' : World} {Q : Exit → Act → World → Prop} (hg : o.guard = none) (t : TypeId) (n : Nat) (parts : Array (Nat × Operand)) (ho : o.op = .buildSlice t n parts) (v : Value)
    (hr : (Instr.buildSlice t n (parts.map fun (i, x) => (i, a.eval x))).run P w = .ok v w') (h : wpList P ops Q rest (a.put o.dst v) w') : wpList P ops Q (o :: rest) a w := by
  refine wpList_plain hg fun _ hK => ?_
  unfold Oper.wp execOp
  simp only [ho, Sem.run_bind, hr, Result.andThen_ok]
  exact hK _ _ h
def rowsA : Array Value := #[.string ⟨#[]⟩, .bool false, .bool false, .bool false, .bool false, .string ⟨#[103, 97, 116, 104, 101, 114]⟩, .bool true, .bool true, .bool false, .bool false, .string ⟨#[115, 99, 97, 116, 116, 101, 114]⟩, .bool true, .bool true, .bool false, .bool false, .string ⟨#[122, 101, 114, 111]⟩, .bool false, .bool false, .bool false, .bool false, .string ⟨#[116, 119, 105, 115, 116]⟩, .bool false, .bool false, .bool true, .bool true, .string ⟨#[102, 108, 121]⟩, .bool false, .bool true, .bool true, .bool false, .string ⟨#[100, 105, 114, 101, 99, 116]⟩, .bool true, .bool true, .bool true, .bool false, .string ⟨#[99, 104, 105, 114, 112]⟩, .bool false, .bool false, .bool true, .bool false, .string ⟨#[102, 105, 108, 108]⟩, .bool false, .bool false, .bool true, .bool false, .string ⟨#[116, 105, 109, 101, 115]⟩, .bool true, .bool false, .bool false, .bool false, .string ⟨#[99, 111, 110, 106]⟩, .bool false, .bool false, .bool false, .bool false, .string ⟨#[111, 118, 101, 114]⟩, .bool false, .bool false, .bool true, .bool false]
set_option maxHeartbeats 1000000 in
theorem rows_c (w : World) : Calls Tryd.prog 36 #[] w fun e w' => e = .returned (.slice (some ⟨w.heap.size, 0, none⟩) 12 12) ∧ w' = w.alloc (.cells rowsA 70) := by
  go_enter Tryd.func36, Tryd.ntmps36
  go_wp2_with (refine wpList_bsl (w' := w.alloc (.cells rowsA 70)) rfl 71 12 _ rfl (.slice (some ⟨w.heap.size, 0, none⟩) 12 12) (by kernel_rfl) ?_)
  go_ret
  exact ⟨rfl, rfl⟩
/-- the table in memory -/
def Rws (w : World) (g : Nat) : Prop := ∀ o, o < 12 → w.cell? ⟨g, o * 5, none⟩ = some (.string (nmb o)) ∧ w.cell? ⟨g, o * 5 + 1, none⟩ = some (.bool (Sp.hs o)) ∧ w.cell? ⟨g, o * 5 + 2, none⟩ = some (.bool (Sp.hj o)) ∧ w.cell? ⟨g, o * 5 + 3, none⟩ = some (.bool (Sp.hn o)) ∧ w.cell? ⟨g, o * 5 + 4, none⟩ = some (.bool (Sp.hk o))
theorem rws_new (w : World) : Rws (w.alloc (.cells rowsA 70)) w.heap.size := by
  have h : ∀ i, (w.alloc (.cells rowsA 70)).cell? ⟨w.heap.size, i, none⟩ = rowsA[i]? := fun i => by simp
  intro o ho
  rw [h, h, h, h, h]
  match o, ho with
  | 0, _ => exact ⟨rfl, rfl, rfl, rfl, rfl⟩
  | 1, _ => exact ⟨rfl, rfl, rfl, rfl, rfl⟩
  | 2, _ => exact ⟨rfl, rfl, rfl, rfl, rfl⟩
  | 3, _ => exact ⟨rfl, rfl, rfl, rfl, rfl⟩
  | 4, _ => exact ⟨rfl, rfl, rfl, rfl, rfl⟩
  | 5, _ => exact ⟨rfl, rfl, rfl, rfl, rfl⟩
  | 6, _ => exact ⟨rfl, rfl, rfl, rfl, rfl⟩
  | 7, _ => exact ⟨rfl, rfl, rfl, rfl, rfl⟩
  | 8, _ => exact ⟨rfl, rfl, rfl, rfl, rfl⟩
  | 9, _ => exact ⟨rfl, rfl, rfl, rfl, rfl⟩
  | 10, _ => exact ⟨rfl, rfl, rfl, rfl, rfl⟩
  | 11, _ => exact ⟨rfl, rfl, rfl, rfl, rfl⟩
theorem Rws.below {w w' : World} {g : Nat} (h : Rws w g) (hb : Below w.heap.size w w') : Rws w' g := fun o ho => by
  obtain ⟨h0, h1, h2, h3, h4⟩ := h o ho
  exact ⟨(hb.cell (cell_lt h0)).trans h0, (hb.cell (cell_lt h1)).trans h1, (hb.cell (cell_lt h2)).trans h2, (hb.cell (cell_lt h3)).trans h3, (hb.cell (cell_lt h4)).trans h4⟩
theorem rows2_c (w : World) : Calls Tryd.prog 36 #[] w fun e w' => e = .returned (.slice (some ⟨w.heap.size, 0, none⟩) 12 12) ∧ Rws w' w.heap.size ∧ Below w.heap.size w w' := by
  refine (rows_c w).mono ?_
  rintro e w' ⟨rfl, rfl⟩
  exact ⟨rfl, rws_new w, (Below.refl _ _).alloc (Nat.le_refl _) _⟩
end Go.Proofs.YtmnbpmmilfkjiaaDoor
/-
  timbreref15: Name, Op.
-/
namespace Go.Proofs.YtmnbpmmilfkjiaaDoor
open Flo Go.RowKit
set_option maxHeartbeats 1000000 in
theorem dname_c (x : Int) (w : World) :
    Calls Tryd.prog 34 #[.int .i64 x] w fun e w' => e = .returned (.tuple #[.string (nmk x), .bool (Sp.kn x)]) ∧ Below w.heap.size w w' := by
  by_cases h1 : x < 1
  · have hf : Hid (Sp.kn x = false) := by unfold Sp.kn; rw [decide_eq_false (by omega), Bool.false_and]; rfl
    have hk : Hid (nmk x = ⟨#[]⟩) := by unfold nmk; rw [hf.out]; rfl
    rw [hf.out, hk.out]
    go_enter Tryd.func34, Tryd.ntmps34
    go_wp2
    go_ret2
    exact ⟨rfl, Below.refl _ _⟩
  · have q1 : decide (x < 1) = false := decide_eq_false h1
    by_cases h2 : 11 < x
    · have hf : Hid (Sp.kn x = false) := by unfold Sp.kn; rw [decide_eq_false (by omega : ¬ x ≤ 11), Bool.and_false]; rfl
      have hk : Hid (nmk x = ⟨#[]⟩) := by unfold nmk; rw [hf.out]; rfl
      rw [hf.out, hk.out]
      go_enter Tryd.func34, Tryd.ntmps34
      go_wp2
      go_ret2
      exact ⟨rfl, Below.refl _ _⟩
    · obtain ⟨o, rfl⟩ : ∃ o : Nat, x = (o : Int) := ⟨x.toNat, by omega⟩
      have hf : Hid (Sp.kn (o : Int) = true) := Sp.kn_iff.2 ⟨by omega, by omega⟩
      have hk : Hid (nmk (o : Int) = nmb o) := by unfold nmk; rw [hf.out]; rfl
      rw [hf.out, hk.out]
      have q2 : decide ((11 : Int) < (o : Int)) = false := decide_eq_false h2
      have q3 : (o : Int) < 12 := by omega
      have q4 : o < 12 := by omega
      clear h1 h2
      go_enter Tryd.func34, Tryd.ntmps34
      go_wp2_with fail
      refine (rows2_c _).mono ?_
      rintro e w1 ⟨rfl, R1, B1⟩
      obtain ⟨z0, _⟩ := R1 o q4
      have hB : Hid (Below w.heap.size w w1) := B1
      clear B1 R1
      go_wp2
      go_ret2
      exact ⟨rfl, hB.out⟩
end Go.Proofs.YtmnbpmmilfkjiaaDoor
/-
  timbreref15: within, number, Form.
-/
namespace Go.Proofs.YtmnbpmmilfkjiaaDoor
open Flo Go.RowKit
theorem dwithin_c (x lo hi : Int) (b : Bool) (hb : Sp.wi x lo hi = b) (w : World) :
    Calls Tryd.prog 35 #[.int .i64 x, .int .i64 lo, .int .i64 hi] w fun e w' => e = .returned (.bool b) ∧ w = w' := by
  subst hb
  by_cases h1 : lo ≤ x
  · by_cases h2 : x ≤ hi
    · have hf : Hid (Sp.wi x lo hi = true) := Sp.wi_iff.2 ⟨h1, h2⟩
      rw [hf.out]
      go_enter Tryd.func35, Tryd.ntmps35
      go_wp2
      go_ret
      exact ⟨rfl, rfl⟩
    · have hf : Hid (Sp.wi x lo hi = false) := by unfold Sp.wi; rw [decide_eq_false h2, Bool.and_false]; rfl
      rw [hf.out]
      have q2 : decide (x ≤ hi) = false := decide_eq_false h2
      go_enter Tryd.func35, Tryd.ntmps35
      go_wp2
      go_ret
      exact ⟨rfl, rfl⟩
  · have hf : Hid (Sp.wi x lo hi = false) := by unfold Sp.wi; rw [decide_eq_false h1, Bool.false_and]; rfl
    rw [hf.out]
    have q1 : decide (lo ≤ x) = false := decide_eq_false h1
    go_enter Tryd.func35, Tryd.ntmps35
    go_wp2
    go_ret
    exact ⟨rfl, rfl⟩
/-- a Bool of a comparison -/
theorem dnum_ret {b c : Bool} (h : b = c) : Ending.returned (.bool b) = .returned (.bool c) := by rw [h]
set_option maxHeartbeats 4000000 in
theorem dnumber_c (s : Sp.St) (w : World) :
    Calls Tryd.prog 37 #[sv s] w fun e w' => e = .returned (.bool (Sp.num s)) ∧ Below w.heap.size w w' := by
  obtain ⟨op, dst, src, jump, count, n, k⟩ := s
  obtain ⟨wa, ewa⟩ : ∃ wa, Hid (w.alloc (.cells #[.int .i64 op, .int .i64 dst, .int .i64 src, .int .i64 jump, .int .i64 count, .int .i64 n, .int .i64 k] 39) = wa) := ⟨_, (rfl : _ = _)⟩
  have Ba : Hid (Below w.heap.size w wa) := by rw [← ewa.out]; exact (Below.refl _ _).alloc (Nat.le_refl _) _
  have X2 : Bst wa w.heap.size op dst src jump count n k := by rw [← ewa.out]; exact Bst.new w op dst src jump count n k
  obtain ⟨y0, y1, y2, y3, y4, y5, y6⟩ := X2
  unfold sv sva
  by_cases h4 : op = 4
  · subst h4
    obtain ⟨b, hb⟩ : ∃ b, Hid (Sp.wi n 1 16384 = b) := ⟨_, (rfl : _ = _)⟩
    have hf : Hid (Sp.num ⟨4, dst, src, jump, count, n, k⟩ = (b && Sp.wi k 0 (n - 1))) := by show _ = _; rw [← hb.out]; rfl
    rw [hf.out]
    have hw : b = true → wrap64 (n - 1) = n - 1 ∧ wrap64 (wrap64 (2 * n) - 1) = 2 * n - 1 := fun e => Sp.w1 (Sp.wi_iff.1 (hb.out.trans e))
    have hwr : wrap64 (2 * n) = wrap64 (2 * n) := rfl
    go_enter Tryd.func37, Tryd.ntmps37
    go_upto_region 1 with fail
    rw [ewa.out]
    go_wp2_with fail
    refine (dwithin_c _ _ _ b hb.out wa).mono ?_
    rintro e w1 ⟨rfl, rfl⟩
    cases b with
    | false =>
      go_wp2_with fail
      go_ret
      exact ⟨rfl, Ba.out⟩
    | true =>
      obtain ⟨e1, e2⟩ := hw rfl
      clear hw hwr hf hb
      go_wp2_with fail
      rw [e1]
      refine (dwithin_c _ _ _ _ rfl wa).mono ?_
      rintro e w1 ⟨rfl, rfl⟩
      go_wp2_with fail
      go_ret
      exact ⟨dnum_ret (by simp), Ba.out⟩
  by_cases h5 : op = 5
  · subst h5
    obtain ⟨b, hb⟩ : ∃ b, Hid (Sp.wi n 2 5 = b) := ⟨_, (rfl : _ = _)⟩
    have hf : Hid (Sp.num ⟨5, dst, src, jump, count, n, k⟩ = (b && decide (count ≤ jump))) := by show _ = _; rw [← hb.out]; rfl
    rw [hf.out]
    clear hf
    go_enter Tryd.func37, Tryd.ntmps37
    go_upto_region 1 with fail
    rw [ewa.out]
    go_wp2_with fail
    refine (dwithin_c _ _ _ b hb.out wa).mono ?_
    rintro e w1 ⟨rfl, rfl⟩
    cases b with
    | false =>
      go_wp2_with fail
      go_ret
      exact ⟨rfl, Ba.out⟩
    | true =>
      clear hb
      generalize hz : decide (count ≤ jump) = z
      go_wp2_with fail
      go_ret
      exact ⟨dnum_ret (by simp [hz]), Ba.out⟩
  by_cases h6 : op = 6
  · subst h6
    obtain ⟨b, hb⟩ : ∃ b, Hid (Sp.wi n 1 64 = b) := ⟨_, (rfl : _ = _)⟩
    have hf : Hid (Sp.num ⟨6, dst, src, jump, count, n, k⟩ = (b && decide (count ≤ n))) := by show _ = _; rw [← hb.out]; rfl
    rw [hf.out]
    clear hf
    go_enter Tryd.func37, Tryd.ntmps37
    go_upto_region 1 with fail
    rw [ewa.out]
    go_wp2_with fail
    refine (dwithin_c _ _ _ b hb.out wa).mono ?_
    rintro e w1 ⟨rfl, rfl⟩
    cases b with
    | false =>
      go_wp2_with fail
      go_ret
      exact ⟨rfl, Ba.out⟩
    | true =>
      clear hb
      generalize hz : decide (count ≤ n) = z
      go_wp2_with fail
      go_ret
      exact ⟨dnum_ret (by simp [hz]), Ba.out⟩
  by_cases h7 : op = 7
  · subst h7
    obtain ⟨b, hb⟩ : ∃ b, Hid (Sp.wi n 1 16384 = b) := ⟨_, (rfl : _ = _)⟩
    have hf : Hid (Sp.num ⟨7, dst, src, jump, count, n, k⟩ = (b && decide (count ≤ n))) := by show _ = _; rw [← hb.out]; rfl
    rw [hf.out]
    clear hf
    go_enter Tryd.func37, Tryd.ntmps37
    go_upto_region 1 with fail
    rw [ewa.out]
    go_wp2_with fail
    refine (dwithin_c _ _ _ b hb.out wa).mono ?_
    rintro e w1 ⟨rfl, rfl⟩
    cases b with
    | false =>
      go_wp2_with fail
      go_ret
      exact ⟨rfl, Ba.out⟩
    | true =>
      clear hb
      generalize hz : decide (count ≤ n) = z
      go_wp2_with fail
      go_ret
      exact ⟨dnum_ret (by simp [hz]), Ba.out⟩
  by_cases h8 : op = 8
  · subst h8
    obtain ⟨b, hb⟩ : ∃ b, Hid (Sp.wi n 1 16384 = b) := ⟨_, (rfl : _ = _)⟩
    have hf : Hid (Sp.num ⟨8, dst, src, jump, count, n, k⟩ = (b && Sp.wi count (2 * n - 1) 16384)) := by show _ = _; rw [← hb.out]; rfl
    rw [hf.out]
    have hw : b = true → wrap64 (n - 1) = n - 1 ∧ wrap64 (wrap64 (2 * n) - 1) = 2 * n - 1 := fun e => Sp.w1 (Sp.wi_iff.1 (hb.out.trans e))
    have hwr : wrap64 (2 * n) = wrap64 (2 * n) := rfl
    go_enter Tryd.func37, Tryd.ntmps37
    go_upto_region 1 with fail
    rw [ewa.out]
    go_wp2_with fail
    refine (dwithin_c _ _ _ b hb.out wa).mono ?_
    rintro e w1 ⟨rfl, rfl⟩
    cases b with
    | false =>
      go_wp2_with fail
      go_ret
      exact ⟨rfl, Ba.out⟩
    | true =>
      obtain ⟨e1, e2⟩ := hw rfl
      clear hw hwr hf hb
      obtain ⟨m, hm⟩ : ∃ m, Hid (2 * n - 1 = m) := ⟨_, (rfl : _ = _)⟩
      obtain ⟨u, hu⟩ : ∃ u, Hid (wrap64 (2 * n) = u) := ⟨_, (rfl : _ = _)⟩
      go_wp2_with fail
      rw [e2]
      refine (dwithin_c _ _ _ _ rfl wa).mono ?_
      rintro e w1 ⟨rfl, rfl⟩
      go_wp2_with fail
      go_ret
      exact ⟨dnum_ret (by simp), Ba.out⟩
  by_cases h11 : op = 11
  · subst h11
    obtain ⟨b, hb⟩ : ∃ b, Hid (Sp.wi n 1 16384 = b) := ⟨_, (rfl : _ = _)⟩
    have hf : Hid (Sp.num ⟨11, dst, src, jump, count, n, k⟩ = b) := by show _ = _; rw [← hb.out]; rfl
    rw [hf.out]
    go_enter Tryd.func37, Tryd.ntmps37
    go_upto_region 1 with fail
    rw [ewa.out]
    go_wp2_with fail
    refine (dwithin_c _ _ _ b hb.out wa).mono ?_
    rintro e w1 ⟨rfl, rfl⟩
    go_wp2_with fail
    go_ret
    exact ⟨rfl, Ba.out⟩
  have hf : Hid (Sp.num ⟨op, dst, src, jump, count, n, k⟩ = true) := by show _ = _; unfold Sp.num; simp only [h4, h5, h6, h7, h8, h11, if_false]
  rw [hf.out]
  have q4 : (op == 4) = false := beq_eq_false_iff_ne.2 h4
  have q5 : (op == 5) = false := beq_eq_false_iff_ne.2 h5
  have q6 : (op == 6) = false := beq_eq_false_iff_ne.2 h6
  have q7 : (op == 7) = false := beq_eq_false_iff_ne.2 h7
  have q8 : (op == 8) = false := beq_eq_false_iff_ne.2 h8
  have q11 : (op == 11) = false := beq_eq_false_iff_ne.2 h11
  clear h4 h5 h6 h7 h8 h11
  go_enter Tryd.func37, Tryd.ntmps37
  go_upto_region 1 with fail
  rw [ewa.out]
  go_wp2_with fail
  go_ret
  exact ⟨rfl, Ba.out⟩
end Go.Proofs.YtmnbpmmilfkjiaaDoor
/-
  timbreref15: Form.
-/
namespace Go.Proofs.YtmnbpmmilfkjiaaDoor
open Flo Go.RowKit
/-- Form's answer -/
def fnn (b : Bool) : Int := bif b then 0 else 9
/-- behind the row's load -/
structure CutF (w wx : World) (g : Nat) (o : Nat) (op dst src jump count n k : Int) : Prop where
  st : Bst wx w.heap.size op dst src jump count n k
  c1 : wx.cell? ⟨g, 1, none⟩ = some (.bool (Sp.hs o))
  c2 : wx.cell? ⟨g, 2, none⟩ = some (.bool (Sp.hj o))
  c3 : wx.cell? ⟨g, 3, none⟩ = some (.bool (Sp.hn o))
  c4 : wx.cell? ⟨g, 4, none⟩ = some (.bool (Sp.hk o))
  be : Below w.heap.size w wx
theorem cutF_new {w w1 w5 : World} {o : Nat} {op dst src jump count n k : Int} (XH : Hid (Bst w1 w.heap.size op dst src jump count n k)) (B7 : Hid (Below w1.heap.size w1 w5)) (hB : Hid (Below w.heap.size w w1)) :
    Hid (CutF w (w5.alloc (.cells #[.string (nmb o), .bool (Sp.hs o), .bool (Sp.hj o), .bool (Sp.hn o), .bool (Sp.hk o)] 70)) w5.heap.size o op dst src jump count n k) :=
  ⟨XH.out.below (B7.out.alloc B7.out.size _), by simp, by simp, by simp, by simp, (hB.out.trans (B7.out.mono hB.out.size)).alloc (Nat.le_trans hB.out.size B7.out.size) _⟩
theorem cutF_set {w w1 w5 : World} {o : Nat} {op dst src jump count n k : Int} (XH : Hid (Bst w1 w.heap.size op dst src jump count n k)) (B7 : Hid (Below w1.heap.size w1 w5)) (hB : Hid (Below w.heap.size w w1))
    {v1 v2 v3 v4 : Value} (x1 : w5.cell? ⟨w1.heap.size, 1, none⟩ = some v1) (x2 : w5.cell? ⟨w1.heap.size, 2, none⟩ = some v2) (x3 : w5.cell? ⟨w1.heap.size, 3, none⟩ = some v3) (x4 : w5.cell? ⟨w1.heap.size, 4, none⟩ = some v4) :
    Hid (CutF w (((((w5.setCell ⟨w1.heap.size, 0, none⟩ (.string (nmb o))).setCell ⟨w1.heap.size, 1, none⟩ (.bool (Sp.hs o))).setCell ⟨w1.heap.size, 2, none⟩ (.bool (Sp.hj o))).setCell ⟨w1.heap.size, 3, none⟩ (.bool (Sp.hn o))).setCell ⟨w1.heap.size, 4, none⟩ (.bool (Sp.hk o))) w1.heap.size o op dst src jump count n k) := by
  have B9 : Below w1.heap.size w1 (((((w5.setCell ⟨w1.heap.size, 0, none⟩ (.string (nmb o))).setCell ⟨w1.heap.size, 1, none⟩ (.bool (Sp.hs o))).setCell ⟨w1.heap.size, 2, none⟩ (.bool (Sp.hj o))).setCell ⟨w1.heap.size, 3, none⟩ (.bool (Sp.hn o))).setCell ⟨w1.heap.size, 4, none⟩ (.bool (Sp.hk o))) :=
    ((((B7.out.setCell (Nat.le_refl _) _).setCell (Nat.le_refl _) _).setCell (Nat.le_refl _) _).setCell (Nat.le_refl _) _).setCell (Nat.le_refl _) _
  refine ⟨XH.out.below B9, ?_, ?_, ?_, ?_, hB.out.trans (B9.mono hB.out.size)⟩
  · simp [World.cell?_setCell_other, World.cell?_setCell_same, x1]
  · simp [World.cell?_setCell_other, World.cell?_setCell_same, x2]
  · simp [World.cell?_setCell_other, World.cell?_setCell_same, x3]
  · simp [World.cell?_setCell_other, World.cell?_setCell_same, x4]
set_option maxHeartbeats 8000000 in
set_option maxRecDepth 100000 in
theorem dform_c (s : Sp.St) (w : World) :
    Calls Tryd.prog 24 #[sv s] w fun e w' => e = .returned (.int .i64 (fnn (Sp.fm s))) ∧ Below w.heap.size w w' := by
  rw [← Sp.dfm_eq]
  obtain ⟨op, dst, src, jump, count, n, k⟩ := s
  obtain ⟨wa, ewa⟩ : ∃ wa, Hid (w.alloc (.cells #[.int .i64 op, .int .i64 dst, .int .i64 src, .int .i64 jump, .int .i64 count, .int .i64 n, .int .i64 k] 39) = wa) := ⟨_, (rfl : _ = _)⟩
  have Ba : Hid (Below w.heap.size w wa) := by rw [← ewa.out]; exact (Below.refl _ _).alloc (Nat.le_refl _) _
  have X2 : Hid (Bst wa w.heap.size op dst src jump count n k) := by show Bst _ _ _ _ _ _ _ _ _; rw [← ewa.out]; exact Bst.new w op dst src jump count n k
  have hnm : Hid (Calls Tryd.prog 34 #[.int .i64 op] wa fun e w' => e = .returned (.tuple #[.string (nmk op), .bool (Sp.kn op)]) ∧ Below wa.heap.size wa w') := dname_c op wa
  have hnu : Hid (∀ W, Calls Tryd.prog 37 #[sv ⟨op, dst, src, jump, count, n, k⟩] W fun e w' => e = .returned (.bool (Sp.num ⟨op, dst, src, jump, count, n, k⟩)) ∧ Below W.heap.size W w') := fun W => dnumber_c _ W
  unfold Sp.dfm
  simp only
  obtain ⟨kb, hkb⟩ : ∃ b, Hid (Sp.kn op = b) := ⟨_, (rfl : _ = _)⟩
  obtain ⟨b1, hb1⟩ : ∃ b, Hid (Sp.wi dst 0 262143 = b) := ⟨_, (rfl : _ = _)⟩
  obtain ⟨b2, hb2⟩ : ∃ b, Hid (Sp.wi count 1 262144 = b) := ⟨_, (rfl : _ = _)⟩
  obtain ⟨nb, hnb⟩ : ∃ b, Hid (Sp.num ⟨op, dst, src, jump, count, n, k⟩ = b) := ⟨_, (rfl : _ = _)⟩
  obtain ⟨gb, hgb⟩ : ∃ b, Hid (Sp.dgood op.toNat ⟨op, dst, src, jump, count, n, k⟩ = b) := ⟨_, (rfl : _ = _)⟩
  rw [hkb.out] at hnm
  rw [hnb.out] at hnu
  rw [hkb.out, hb1.out, hb2.out, hnb.out, hgb.out]
  generalize nmk op = nm at hnm
  unfold sv sva at *
  go_enter Tryd.func24, Tryd.ntmps24
  go_upto_region 1 with fail
  rw [ewa.out]
  obtain ⟨y0, y1, y2, y3, y4, y5, y6⟩ := X2.out
  go_wp2_with fail
  refine hnm.out.mono ?_
  rintro e w1 ⟨rfl, B1⟩
  have Xs := X2.out.below B1
  have hB1 : Hid (Below w.heap.size w w1) := Ba.out.trans (B1.mono Ba.out.size)
  clear y0 y1 y2 y3 y4 y5 y6 B1 Ba X2 ewa hnm
  have XH : Hid (Bst w1 w.heap.size op dst src jump count n k) := Xs
  obtain ⟨y0, y1, y2, y3, y4, y5, y6⟩ := Xs
  cases kb with
  | false =>
    go_wp2_with fail
    go_ret
    exact ⟨rfl, hB1.out⟩
  | true =>
  go_wp2_with fail
  refine (dwithin_c _ _ _ b1 hb1.out w1).mono ?_
  rintro e w2 ⟨rfl, rfl⟩
  cases b1 with
  | false =>
    go_wp2_with fail
    go_ret
    exact ⟨rfl, hB1.out⟩
  | true =>
  go_wp2_with fail
  refine (dwithin_c _ _ _ b2 hb2.out w1).mono ?_
  rintro e w2 ⟨rfl, rfl⟩
  cases b2 with
  | false =>
    go_wp2_with fail
    go_ret
    exact ⟨rfl, hB1.out⟩
  | true =>
  obtain ⟨o, rfl⟩ : ∃ o : Nat, op = (o : Int) := ⟨op.toNat, by have := Sp.kn_iff.1 hkb.out; omega⟩
  have q4 : o < 12 := by have := Sp.kn_iff.1 hkb.out; omega
  have q3 : (o : Int) < 12 := by omega
  rw [Int.toNat_natCast] at hgb
  go_upto_region 4 with fail
  go_cut [5] (fun r wx => ∃ g : Nat, r = .pointer (some ⟨g, 0, none⟩) ∧ Hid (CutF w wx g o o dst src jump count n k))
  case first =>
    have yd0 : ∀ X, (w1.alloc X).cell? ⟨w.heap.size, 0, none⟩ = some (.int .i64 (o : Int)) := fun X => cell_alloc y0 X
    first
    | (go_region_with (first
        | (go_at_call 36
           refine (rows2_c w1.drew).mono ?_
           rintro e w5 ⟨rfl, R5, B5⟩
           have R6 : Rws w5 w1.heap.size := R5
           obtain ⟨z0, z1, z2, z3, z4⟩ := R6 o q4
           clear R6
           have zz0 := fun X => cell_alloc z0 X
           have zz1 := fun X => cell_alloc z1 X
           have zz2 := fun X => cell_alloc z2 X
           have zz3 := fun X => cell_alloc z3 X
           have zz4 := fun X => cell_alloc z4 X
           have B6 : Below w1.heap.size w1 w5 := (Below.refl _ _).drew.trans B5
           have B7 : Hid (Below w1.heap.size w1 w5) := B6
           obtain ⟨y0, y1, y2, y3, y4, y5, y6⟩ := XH.out.below B6
           have yy0 := fun X => cell_alloc y0 X
           clear B5 B6 R5)
        | (go_at_call 36
           refine (rows2_c (w1.alloc (.cells #[.string ⟨#[]⟩, .bool false, .bool false, .bool false, .bool false] 70)).drew).mono ?_
           rintro e w5 ⟨rfl, R5, B5⟩
           have R6 : Rws w5 (w1.heap.size + 1) := by simpa [World.drew] using R5
           obtain ⟨z0, z1, z2, z3, z4⟩ := R6 o q4
           clear R6
           have B6 : Below w1.heap.size w1 w5 := ((Below.refl _ _).alloc (Nat.le_refl _) _).drew.trans (B5.mono (by simp [World.drew]))
           have B7 : Hid (Below w1.heap.size w1 w5) := B6
           obtain ⟨y0, y1, y2, y3, y4, y5, y6⟩ := XH.out.below B6
           have B8 : Hid (Below (w1.alloc (.cells #[.string ⟨#[]⟩, .bool false, .bool false, .bool false, .bool false] 70)).drew.heap.size (w1.alloc (.cells #[.string ⟨#[]⟩, .bool false, .bool false, .bool false, .bool false] 70)).drew w5) := B5
           have x0 := (B5.cell (p := ⟨w1.heap.size, 0, none⟩) (by simp [World.drew])).trans (by simp : (w1.alloc (.cells #[.string ⟨#[]⟩, .bool false, .bool false, .bool false, .bool false] 70)).drew.cell? ⟨w1.heap.size, 0, none⟩ = some (.string ⟨#[]⟩))
           have x1 := (B5.cell (p := ⟨w1.heap.size, 1, none⟩) (by simp [World.drew])).trans (by simp : (w1.alloc (.cells #[.string ⟨#[]⟩, .bool false, .bool false, .bool false, .bool false] 70)).drew.cell? ⟨w1.heap.size, 1, none⟩ = some (.bool false))
           have x2 := (B5.cell (p := ⟨w1.heap.size, 2, none⟩) (by simp [World.drew])).trans (by simp : (w1.alloc (.cells #[.string ⟨#[]⟩, .bool false, .bool false, .bool false, .bool false] 70)).drew.cell? ⟨w1.heap.size, 2, none⟩ = some (.bool false))
           have x3 := (B5.cell (p := ⟨w1.heap.size, 3, none⟩) (by simp [World.drew])).trans (by simp : (w1.alloc (.cells #[.string ⟨#[]⟩, .bool false, .bool false, .bool false, .bool false] 70)).drew.cell? ⟨w1.heap.size, 3, none⟩ = some (.bool false))
           have x4 := (B5.cell (p := ⟨w1.heap.size, 4, none⟩) (by simp [World.drew])).trans (by simp : (w1.alloc (.cells #[.string ⟨#[]⟩, .bool false, .bool false, .bool false, .bool false] 70)).drew.cell? ⟨w1.heap.size, 4, none⟩ = some (.bool false))
           have f0 : w5.frozen? ⟨w1.heap.size, 0, none⟩ = false := (World.frozen?_of_block (a := ⟨w1.heap.size, 0, none⟩) (B5.block w1.heap.size (by simp [World.drew]))).trans (by simp : (w1.alloc (.cells #[.string ⟨#[]⟩, .bool false, .bool false, .bool false, .bool false] 70)).drew.frozen? ⟨w1.heap.size, 0, none⟩ = false)
           have f1 : w5.frozen? ⟨w1.heap.size, 1, none⟩ = false := (World.frozen?_of_block (a := ⟨w1.heap.size, 1, none⟩) (B5.block w1.heap.size (by simp [World.drew]))).trans (by simp : (w1.alloc (.cells #[.string ⟨#[]⟩, .bool false, .bool false, .bool false, .bool false] 70)).drew.frozen? ⟨w1.heap.size, 1, none⟩ = false)
           have f2 : w5.frozen? ⟨w1.heap.size, 2, none⟩ = false := (World.frozen?_of_block (a := ⟨w1.heap.size, 2, none⟩) (B5.block w1.heap.size (by simp [World.drew]))).trans (by simp : (w1.alloc (.cells #[.string ⟨#[]⟩, .bool false, .bool false, .bool false, .bool false] 70)).drew.frozen? ⟨w1.heap.size, 2, none⟩ = false)
           have f3 : w5.frozen? ⟨w1.heap.size, 3, none⟩ = false := (World.frozen?_of_block (a := ⟨w1.heap.size, 3, none⟩) (B5.block w1.heap.size (by simp [World.drew]))).trans (by simp : (w1.alloc (.cells #[.string ⟨#[]⟩, .bool false, .bool false, .bool false, .bool false] 70)).drew.frozen? ⟨w1.heap.size, 3, none⟩ = false)
           have f4 : w5.frozen? ⟨w1.heap.size, 4, none⟩ = false := (World.frozen?_of_block (a := ⟨w1.heap.size, 4, none⟩) (B5.block w1.heap.size (by simp [World.drew]))).trans (by simp : (w1.alloc (.cells #[.string ⟨#[]⟩, .bool false, .bool false, .bool false, .bool false] 70)).drew.frozen? ⟨w1.heap.size, 4, none⟩ = false)
           clear B5 B6 R5)))
    | fail
    all_goals (
      go_wp2_with fail
      go_meet
      case rel =>
        refine ⟨_, rfl, ?_⟩
        first
        | with_reducible exact cutF_new XH B7 hB1
        | with_reducible exact cutF_set XH B7 hB1 x1 x2 x3 x4)
  case rest =>
    obtain ⟨g, rfl, hC⟩ := hcut
    clear y0 y1 y2 y3 y4 y5 y6 XH hB1
    obtain ⟨y0, y1, y2, y3, y4, y5, y6⟩ := hC.out.st
    have z1 := hC.out.c1
    have z2 := hC.out.c2
    have z3 := hC.out.c3
    have z4 := hC.out.c4
    have hBc : Hid (Below w.heap.size w wc) := hC.out.be
    unfold Sp.dgood at hgb
    simp only at hgb
    obtain ⟨bS, hbS⟩ : ∃ b, Hid (Sp.wi src 0 262143 = b) := ⟨_, (rfl : _ = _)⟩
    obtain ⟨bJ, hbJ⟩ : ∃ b, Hid (Sp.wi jump 1 262144 = b) := ⟨_, (rfl : _ = _)⟩
    obtain ⟨zS, hzS⟩ : ∃ b, (src == 0) = b := ⟨_, rfl⟩
    obtain ⟨zJ, hzJ⟩ : ∃ b, (jump == 0) = b := ⟨_, rfl⟩
    obtain ⟨zN, hzN⟩ : ∃ b, (n == 0) = b := ⟨_, rfl⟩
    obtain ⟨zK, hzK⟩ : ∃ b, (k == 0) = b := ⟨_, rfl⟩
    rw [hbS.out, hbJ.out, hzS, hzJ, hzN, hzK] at hgb
    generalize Sp.hs o = f1 at z1 hgb
    generalize Sp.hj o = f2 at z2 hgb
    generalize Sp.hn o = f3 at z3 hgb
    generalize Sp.hk o = f4 at z4 hgb
    clear hkb hnb hC q3 q4
    obtain ⟨g1, hg1⟩ : ∃ b, Hid ((bS && (f1 || zS)) = b) := ⟨_, (rfl : _ = _)⟩
    obtain ⟨g2, hg2⟩ : ∃ b, Hid ((g1 && (bif f2 then bJ else zJ)) = b) := ⟨_, (rfl : _ = _)⟩
    obtain ⟨g3, hg3⟩ : ∃ b, Hid ((g2 && (f3 || zN)) = b) := ⟨_, (rfl : _ = _)⟩
    rw [hg1.out, hg2.out, hg3.out] at hgb
    go_upto_region 5 with fail
    go_cut [6] (fun r wx => r = .bool g1 ∧ wx = wc)
    case first =>
      go_wp2_with fail
      refine (dwithin_c _ _ _ bS hbS.out wc).mono ?_
      rintro e w2 ⟨rfl, rfl⟩
      cases bS with
      | false =>
        go_wp2_with fail
        go_meet
        case rel => exact ⟨congrArg Value.bool hg1.out, rfl⟩
      | true =>
      cases f1 with
      | true =>
        go_wp2_with fail
        go_meet
        case rel => exact ⟨congrArg Value.bool hg1.out, rfl⟩
      | false =>
        go_wp2_with fail
        go_meet
        case rel => exact ⟨congrArg Value.bool hg1.out, rfl⟩
    case rest =>
      obtain ⟨rfl, rfl⟩ := hcut
      clear hg1 hbS hzS z1
      go_upto_region 6 with fail
      go_cut [45] (fun r wx => r = .bool f2 ∧ wx = wc)
      case first =>
        go_wp2_with fail
        go_meet
        case rel => exact ⟨rfl, rfl⟩
      case rest =>
        obtain ⟨rfl, rfl⟩ := hcut
        go_upto_if 45 with fail
        go_cut [6] (fun r wx => r = .bool g2 ∧ wx = wc)
        case first =>
          cases f2 with
          | true =>
            cases g1 with
            | true =>
              go_wp2_with fail
              refine (dwithin_c _ _ _ bJ hbJ.out wc).mono ?_
              rintro e w2 ⟨rfl, rfl⟩
              go_wp2_with fail
              go_meet
              case rel => exact ⟨congrArg Value.bool hg2.out, rfl⟩
            | false =>
              go_wp2_with fail
              go_meet
              case rel => exact ⟨congrArg Value.bool hg2.out, rfl⟩
          | false =>
            cases g1 with
            | true =>
              go_wp2_with fail
              go_meet
              case rel => exact ⟨congrArg Value.bool hg2.out, rfl⟩
            | false =>
              go_wp2_with fail
              go_meet
              case rel => exact ⟨congrArg Value.bool hg2.out, rfl⟩
        case rest =>
          obtain ⟨rfl, rfl⟩ := hcut
          clear hg2 hbJ hzJ z2
          go_upto_region 9 with fail
          go_cut [6] (fun r wx => r = .bool gb ∧ wx = wc)
          case first =>
            cases g2 with
            | false =>
              go_wp2_with fail
              go_meet
              case rel => exact ⟨congrArg Value.bool (by rw [← hgb.out, ← hg3.out]; rfl), rfl⟩
            | true =>
              cases f3 with
              | true =>
                cases f4 with
                | true =>
                  go_wp2_with fail
                  go_meet
                  case rel => exact ⟨congrArg Value.bool (by rw [← hgb.out, ← hg3.out]; rfl), rfl⟩
                | false =>
                  go_wp2_with fail
                  go_meet
                  case rel => exact ⟨congrArg Value.bool (by rw [← hgb.out, ← hg3.out]; rfl), rfl⟩
              | false =>
                cases zN with
                | true =>
                  cases f4 with
                  | true =>
                    go_wp2_with fail
                    go_meet
                    case rel => exact ⟨congrArg Value.bool (by rw [← hgb.out, ← hg3.out]; rfl), rfl⟩
                  | false =>
                    go_wp2_with fail
                    go_meet
                    case rel => exact ⟨congrArg Value.bool (by rw [← hgb.out, ← hg3.out]; rfl), rfl⟩
                | false =>
                  go_wp2_with fail
                  go_meet
                  case rel => exact ⟨congrArg Value.bool (by rw [← hgb.out, ← hg3.out]; rfl), rfl⟩
          case rest =>
            obtain ⟨rfl, rfl⟩ := hcut
            clear hgb hg3 hzN hzK z3 z4
            cases gb with
            | false =>
              go_wp2_with fail
              go_ret
              exact ⟨rfl, hBc.out⟩
            | true =>
              go_wp2_with fail
              refine (hnu.out wc).mono ?_
              rintro e w2 ⟨rfl, B2⟩
              have hB2 : Hid (Below w.heap.size w w2) := hBc.out.trans (B2.mono hBc.out.size)
              clear B2 y0 y1 y2 y3 y4 y5 y6
              cases nb with
              | false =>
                go_wp2_with fail
                go_ret
                exact ⟨rfl, hB2.out⟩
              | true =>
                go_wp2_with fail
                go_ret
                exact ⟨rfl, hB2.out⟩
end Go.Proofs.YtmnbpmmilfkjiaaDoor
/-
  The statements of layer 18: lives; errors' numbers.
-/
namespace Go.Proofs.YtmnbpmmilfkjiaaDoor
open Flo Go.RowKit
/-- the number of an error that is nil or the one of programs -/
theorem num_fe8 (al : List Addr) (b : Bool) (w : World) (he : Errs w al) : Calls Tryd.prog 13 #[fev al b] w fun e w' => e = .returned (.int .i64 (fnn b)) ∧ Below w.heap.size w w' := by
  cases b with
  | true =>
    refine (num_nil w).mono ?_
    rintro e w' ⟨rfl, rfl⟩
    exact ⟨rfl, Below.refl _ _⟩
  | false => exact num_err al 8 (by decide) w he
def l18a : Sp.St := ⟨1, 2, 0, 1, 2, 0, 0⟩
def l18b : Sp.St := ⟨1, 0, 1, 1, 2, 0, 0⟩
def l18p : Sp.Pg := ⟨2, 4, 0, 2, [l18a, l18b]⟩
def l18q : Sp.Pg := ⟨2, 4, 0, 2, [l18a]⟩
theorem l18_fm : Sp.fm l18a = true := by decide +kernel
theorem l18_rd : rdl l18a = [0, 1] := Kc.ss_uniq (Kc.cl_ss _) (by unfold Kc.SS; simp) fun x => by unfold rdl; rw [Kc.cl_mem, show Kc.flat (Kc.touS l18a).rd = [0, 1] by decide +kernel]
theorem l18_wr : wrl l18a = [2, 3] := Kc.ss_uniq (Kc.cl_ss _) (by unfold Kc.SS; simp) fun x => by unfold wrl; rw [Kc.cl_mem, show Kc.flat (Kc.touS l18a).wr = [2, 3] by decide +kernel]
theorem l18_flt : Kc.flt l18p.cells 0 0 l18p.steps = 1 := by decide +kernel
theorem l18_chk : Kc.chk l18p = false := by decide +kernel
theorem l18_chq : Kc.chk l18q = true := by decide +kernel
theorem l18_sum : Kc.sumc l18q.steps = 2 := by decide +kernel
set_option maxHeartbeats 4000000 in
set_option maxRecDepth 100000 in
theorem lives18_c (al : List Addr) (w : World) (hE : Errs w al) (hO : Ops w) (he : Pe w al) :
    Calls Tryd.prog 8 #[] w fun e w' => e = .returned (.bool true) ∧ Below w.heap.size w w' := by
  obtain ⟨g0, hg0⟩ : ∃ b, Hid (w.heap.size = b) := ⟨_, (rfl : _ = _)⟩
  obtain ⟨w1, ew1⟩ : ∃ wa, Hid ((w.alloc (.cells #[.int .i64 1, .int .i64 2, .int .i64 0, .int .i64 1, .int .i64 2, .int .i64 0, .int .i64 0, .int .i64 1, .int .i64 0, .int .i64 1, .int .i64 1, .int .i64 2, .int .i64 0, .int .i64 0] 39)).alloc (.cells #[.int .i64 2, .int .i64 4, .int .i64 0, .int .i64 2, .slice (some ⟨g0, 0, none⟩) 2 2] 24) = wa) := ⟨_, (rfl : _ = _)⟩
  have B1 : Hid (Below w.heap.size w w1) := by rw [← ew1.out]; exact ((Below.refl _ _).alloc (Nat.le_refl _) _).alloc (by simp) _
  have A1 : Hid (SAt w1 g0 0 l18a) := by show SAt _ _ _ _; rw [← ew1.out, ← hg0.out]; constructor <;> simp [go_sem, l18a]
  have A2 : Hid (SAt w1 g0 7 l18b) := by show SAt _ _ _ _; rw [← ew1.out, ← hg0.out]; constructor <;> simp [go_sem, l18b]
  have S1 : Hid (Ss w1 (some ⟨g0, 0, none⟩) l18p.steps) := fun i s hi => by
    match i, hi with
    | 0, hi => cases hi; exact ⟨g0, 0, rfl, A1.out⟩
    | 1, hi => cases hi; exact ⟨g0, 0, rfl, A2.out⟩
    | n + 2, hi => simp [l18p] at hi
  have S2 : Hid (Ss w1 (some ⟨g0, 0, none⟩) l18q.steps) := fun i s hi => by
    match i, hi with
    | 0, hi => cases hi; exact ⟨g0, 0, rfl, A1.out⟩
    | n + 1, hi => simp [l18q] at hi
  have X1 : Hid (Bpg w1 (g0 + 1) l18p (.slice (some ⟨g0, 0, none⟩) 2 2)) := by show Bpg _ _ _ _; rw [← ew1.out, ← hg0.out]; constructor <;> simp [go_sem, l18p]
  have F1 : Hid (w1.frozen? ⟨g0 + 1, 4, none⟩ = false) := by show _ = _; rw [← ew1.out, ← hg0.out]; simp [go_sem]
  have e1 : Hid (Pe w1 al) := he.below B1.out
  have o1 : Hid (Ops w1) := hO.below (B1.out.mono (Nat.le_refl _))
  have E1 : Hid (Errs w1 al) := hE.below B1.out
  have htd : Hid (∀ W, Below w1.heap.size w1 W → Calls Tryd.prog 19 #[.agg #[.int .i64 1, .int .i64 2, .int .i64 0, .int .i64 1, .int .i64 2, .int .i64 0, .int .i64 0]] W fun e w' => TdE l18a al W e w') := fun W hW => ktouched_c l18a al W (o1.out.below hW) (e1.out.below hW)
  have hfl : Hid (∀ W, Below w1.heap.size w1 W → Calls Tryd.prog 16 #[.agg #[.int .i64 2, .int .i64 4, .int .i64 0, .int .i64 2, .slice (some ⟨g0, 0, none⟩) 2 2]] W fun e w' => e = .returned (.int .i64 1) ∧ Below W.heap.size W w') := fun W hW => by
    have := kfault_c l18p (some ⟨g0, 0, none⟩) 2 2 al W (S1.out.below hW) rfl (by decide) (o1.out.below hW) (e1.out.below hW)
    rw [l18_flt] at this
    exact this
  have hck : Hid (∀ W, Below w1.heap.size w1 W → Calls Tryd.prog 14 #[.agg #[.int .i64 2, .int .i64 4, .int .i64 0, .int .i64 2, .slice (some ⟨g0, 0, none⟩) 2 2]] W fun e w' => e = .returned (fev al false) ∧ Below W.heap.size W w') := fun W hW => by
    have := kcheck_c l18p (some ⟨g0, 0, none⟩) 2 2 al W (S1.out.below hW) rfl (by decide) (o1.out.below hW) (e1.out.below hW)
    rw [l18_chk] at this
    exact this
  have hnu : Hid (∀ W, Below w1.heap.size w1 W → Calls Tryd.prog 13 #[fev al false] W fun e w' => e = .returned (.int .i64 9) ∧ Below W.heap.size W w') := fun W hW => num_fe8 al false W (E1.out.below hW)
  have hac : Hid (∀ W, Ss W (some ⟨g0, 0, none⟩) l18q.steps → Ops W → Pe W al → Calls Tryd.prog 11 #[.agg #[.int .i64 2, .int .i64 4, .int .i64 0, .int .i64 2, .slice (some ⟨g0, 0, none⟩) 1 2]] W fun e w' => e = .returned (.tuple #[.int .i64 2, .nilIface]) ∧ Below W.heap.size W w') := fun W h1 h2 h3 => by
    have := kacts_c l18q (some ⟨g0, 0, none⟩) 1 2 al W h1 rfl (by decide) h2 h3
    rw [l18_chq, l18_sum] at this
    exact this
  have hcq : Hid (∀ W, Ss W (some ⟨g0, 0, none⟩) l18q.steps → Ops W → Pe W al → Calls Tryd.prog 14 #[.agg #[.int .i64 2, .int .i64 4, .int .i64 0, .int .i64 2, .slice (some ⟨g0, 0, none⟩) 1 2]] W fun e w' => e = .returned .nilIface ∧ Below W.heap.size W w') := fun W h1 h2 h3 => by
    have := kcheck_c l18q (some ⟨g0, 0, none⟩) 1 2 al W h1 rfl (by decide) h2 h3
    rw [l18_chq] at this
    exact this
  have e0 : Hid (Pe w al) := he
  have o0 : Hid (Ops w) := hO
  clear hE hO he
  go_enter Tryd.func8, Tryd.ntmps8
  go_upto_region 2 with fail
  rw [hg0.out, ew1.out]
  obtain ⟨x0, x1, x2, x3, x4⟩ := X1.out
  obtain ⟨y0, y1, y2, y3, y4, y5, y6⟩ := A1.out
  unfold l18a at y0 y1 y2 y3 y4 y5 y6
  unfold l18p at x0 x1 x2 x3
  go_wp2_with fail
  refine (htd.out w1 (Below.refl _ _)).mono ?_
  rintro e w2 ⟨B2, hcs⟩
  rcases hcs with ⟨hf, _⟩ | ⟨_, va, vb, rfl, hT⟩
  · rw [l18_fm] at hf; cases hf
  rw [l18_rd, l18_wr] at hT
  obtain ⟨a1, c1, rfl, -⟩ := RdI.of_own hT.o1
  obtain ⟨a2, c2, rfl, hrd⟩ := RdI.of_own hT.o2
  obtain ⟨b, off, rfl, -, hcell⟩ := hrd (by simp)
  have z1 : w2.cell? ⟨b, off + 1, none⟩ = some (.int .i64 3) := hcell 1 (by decide)
  have B2H : Hid (Below w1.heap.size w1 w2) := B2
  clear hrd hcell hT x0 x1 x2 x3 x4 y0 y1 y2 y3 y4 y5 y6 B2
  have X2 := X1.out.below B2H.out
  unfold l18p at X2
  obtain ⟨x0, x1, x2, x3, x4⟩ := X2
  go_upto_region 3 with fail
  go_wp2_with fail
  refine (hfl.out w2 B2H.out).mono ?_
  rintro e w3 ⟨rfl, B3'⟩
  have B3 : Hid (Below w1.heap.size w1 w3) := B2H.out.trans (B3'.mono B2H.out.size)
  clear x0 x1 x2 x3 x4 B3' z1
  have X3 := X1.out.below B3.out
  unfold l18p at X3
  obtain ⟨x0, x1, x2, x3, x4⟩ := X3
  go_wp2_with fail
  refine (hck.out w3 B3.out).mono ?_
  rintro e w4 ⟨rfl, B4'⟩
  have B4 : Hid (Below w1.heap.size w1 w4) := B3.out.trans (B4'.mono B3.out.size)
  clear x0 x1 x2 x3 x4 B4'
  go_wp2_with fail
  refine (hnu.out w4 B4.out).mono ?_
  rintro e w5 ⟨rfl, B5'⟩
  have B5 : Hid (Below w1.heap.size w1 w5) := B4.out.trans (B5'.mono B4.out.size)
  clear B5'
  have X5 := X1.out.below B5.out
  have F5 := (World.frozen?_of_block (B5.out.block (g0 + 1) (cell_lt X1.out.c4))).trans F1.out
  unfold l18p at X5
  obtain ⟨x0, x1, x2, x3, x4⟩ := X5
  go_upto_region 6 with fail
  obtain ⟨w6, ew6⟩ : ∃ z, Hid (w5.setCell ⟨g0 + 1, 4, none⟩ (.slice (some ⟨g0, 0, none⟩) 1 2) = z) := ⟨_, (rfl : _ = _)⟩
  rw [ew6.out]
  have hle : w.heap.size ≤ g0 + 1 := by have := hg0.out; omega
  have hB6 : Hid (Below w.heap.size w w6) := by rw [← ew6.out]; exact (B1.out.trans (B5.out.mono B1.out.size)).setCell (p := ⟨g0 + 1, 4, none⟩) hle _
  have S6 : Hid (Ss w6 (some ⟨g0, 0, none⟩) l18q.steps) := fun i s hi => by
    obtain ⟨q, o, e, hs⟩ := S2.out.below B5.out i s hi
    refine ⟨q, o, e, ?_⟩
    injection e with e
    injection e with e1 e2
    subst e1
    rw [← ew6.out]
    constructor <;> (rw [World.cell?_setCell_far _ _ _ _ (by simp)]; first | exact hs.c0 | exact hs.c1 | exact hs.c2 | exact hs.c3 | exact hs.c4 | exact hs.c5 | exact hs.c6)
  have X6 : Hid (Bpg w6 (g0 + 1) l18q (.slice (some ⟨g0, 0, none⟩) 1 2)) := by
    show Bpg _ _ _ _
    rw [← ew6.out]
    constructor <;> simp [World.cell?_setCell_other, World.cell?_setCell_same', x0, x1, x2, x3, x4, l18q]
  have O6 : Hid (Ops w6) := o0.out.below (hB6.out.mono (Nat.le_refl _))
  have P6 : Hid (Pe w6 al) := e0.out.below hB6.out
  clear x0 x1 x2 x3 x4 F5
  have Y6 := X6.out
  unfold l18q at Y6
  obtain ⟨x0, x1, x2, x3, x4⟩ := Y6
  go_wp2_with fail
  refine (hac.out w6 S6.out O6.out P6.out).mono ?_
  rintro e w7 ⟨rfl, B7⟩
  have hB7 : Hid (Below w.heap.size w w7) := hB6.out.trans (B7.mono hB6.out.size)
  have S7 : Hid (Ss w7 (some ⟨g0, 0, none⟩) l18q.steps) := S6.out.below B7
  have X7 := X6.out.below B7
  unfold l18q at X7
  clear x0 x1 x2 x3 x4 B7
  obtain ⟨x0, x1, x2, x3, x4⟩ := X7
  go_wp2_with fail
  refine (hcq.out w7 S7.out (o0.out.below (hB7.out.mono (Nat.le_refl _))) (e0.out.below hB7.out)).mono ?_
  rintro e w8 ⟨rfl, B8⟩
  have hB8 : Hid (Below w.heap.size w w8) := hB7.out.trans (B8.mono hB7.out.size)
  clear x0 x1 x2 x3 x4 B8
  go_wp2
  go_ret
  exact ⟨rfl, hB8.out⟩
end Go.Proofs.YtmnbpmmilfkjiaaDoor
