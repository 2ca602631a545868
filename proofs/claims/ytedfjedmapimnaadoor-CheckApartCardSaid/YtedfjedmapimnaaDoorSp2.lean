/-
  Package steps: the table of the operations; known, Name, Form, Acts.
-/
import Derived.Test.YtedfjedmapimnaaDoorSp1
namespace Go.Proofs.YtedfjedmapimnaaDoor
open Flo Go.RowKit
def nms : List ByteArray := [⟨#[]⟩, ⟨#[103, 97, 116, 104, 101, 114]⟩, ⟨#[115, 99, 97, 116, 116, 101, 114]⟩, ⟨#[122, 101, 114, 111]⟩, ⟨#[116, 119, 105, 115, 116]⟩, ⟨#[102, 108, 121]⟩, ⟨#[100, 105, 114, 101, 99, 116]⟩, ⟨#[99, 104, 105, 114, 112]⟩, ⟨#[102, 105, 108, 108]⟩, ⟨#[116, 105, 109, 101, 115]⟩, ⟨#[99, 111, 110, 106]⟩, ⟨#[111, 118, 101, 114]⟩]
def nmb (o : Nat) : ByteArray := nms.getD o ⟨#[]⟩
/-- the table, cell by cell -/
def Ops (w : World) : Prop := ∀ o, o < 12 → w.cell? ⟨19, o * 8, none⟩ = some (.string (nmb o)) ∧ w.cell? ⟨19, o * 8 + 1, none⟩ = some (.bool (Sp.hs o)) ∧ w.cell? ⟨19, o * 8 + 2, none⟩ = some (.bool (Sp.hj o)) ∧ w.cell? ⟨19, o * 8 + 3, none⟩ = some (.bool (Sp.hn o)) ∧ w.cell? ⟨19, o * 8 + 4, none⟩ = some (.int .i64 (Sp.ln o)) ∧ w.cell? ⟨19, o * 8 + 5, none⟩ = some (.int .i64 (Sp.mn o)) ∧ w.cell? ⟨19, o * 8 + 6, none⟩ = some (.bool (Sp.hk o)) ∧ w.cell? ⟨19, o * 8 + 7, none⟩ = some (.int .i64 (Sp.ct o))
theorem Ops.below {w w' : World} (h : Ops w) (hb : Below w.heap.size w w') : Ops w' := fun o ho => by
  obtain ⟨h0, h1, h2, h3, h4, h5, h6, h7⟩ := h o ho
  exact ⟨(hb.cell (cell_lt h0)).trans h0, (hb.cell (cell_lt h1)).trans h1, (hb.cell (cell_lt h2)).trans h2, (hb.cell (cell_lt h3)).trans h3, (hb.cell (cell_lt h4)).trans h4, (hb.cell (cell_lt h5)).trans h5, (hb.cell (cell_lt h6)).trans h6, (hb.cell (cell_lt h7)).trans h7⟩
def opv (o : Nat) : Value := opa (nmb o) (Sp.hs o) (Sp.hj o) (Sp.hn o) (Sp.ln o) (Sp.mn o) (Sp.hk o) (Sp.ct o)
def op0 : Value := opa ⟨#[]⟩ false false false 0 0 false 0
/-- what known answers -/
def knv (x : Int) : Value := bif Sp.kn x then opv x.toNat else op0
set_option maxHeartbeats 1000000 in
theorem sknown_c (x : Int) (w : World) (h : Ops w) :
    Calls Tryd.prog 36 #[.int .i64 x] w fun e w' => e = .returned (.tuple #[knv x, .bool (Sp.kn x)]) ∧ Below w.heap.size w w' := by
  by_cases h1 : x < 1
  · have hf : Hid (Sp.kn x = false) := by unfold Sp.kn; rw [decide_eq_false (by omega), Bool.false_and]; rfl
    have hk : Hid (knv x = op0) := by unfold knv; rw [hf.out]; rfl
    rw [hf.out, hk.out]
    unfold op0 opa
    clear h
    go_enter Tryd.func36, Tryd.ntmps36
    go_wp2
    refine bodyPost_ret (v := .tuple #[.agg #[.string ⟨#[]⟩, .bool false, .bool false, .bool false, .int .i64 0, .int .i64 0, .bool false, .int .i64 0], .bool false]) (by simp [results, Tryd.results36, go_sem]) rfl ⟨rfl, ?_⟩
    exact (Below.refl _ _).alloc (Nat.le_refl _) _
  · by_cases h2 : 12 ≤ x
    · have hf : Hid (Sp.kn x = false) := by unfold Sp.kn; rw [decide_eq_false (by omega : ¬ x ≤ 11), Bool.and_false]; rfl
      have hk : Hid (knv x = op0) := by unfold knv; rw [hf.out]; rfl
      rw [hf.out, hk.out]
      have q1 : decide (x < 1) = false := decide_eq_false h1
      unfold op0 opa
      clear h
      go_enter Tryd.func36, Tryd.ntmps36
      go_wp2
      refine bodyPost_ret (v := .tuple #[.agg #[.string ⟨#[]⟩, .bool false, .bool false, .bool false, .int .i64 0, .int .i64 0, .bool false, .int .i64 0], .bool false]) (by simp [results, Tryd.results36, go_sem]) rfl ⟨rfl, ?_⟩
      exact (Below.refl _ _).alloc (Nat.le_refl _) _
    · obtain ⟨o, rfl⟩ : ∃ o : Nat, x = (o : Int) := ⟨x.toNat, by omega⟩
      have hf : Hid (Sp.kn (o : Int) = true) := Sp.kn_iff.2 ⟨by omega, by omega⟩
      have hk : Hid (knv (o : Int) = opv o) := by unfold knv; rw [hf.out]; rfl
      rw [hf.out, hk.out]
      unfold opv opa
      obtain ⟨y0, y1, y2, y3, y4, y5, y6, y7⟩ := h o (by omega)
      replace y0 := fun X => cell_alloc y0 X
      replace y1 := fun X => cell_alloc y1 X
      replace y2 := fun X => cell_alloc y2 X
      replace y3 := fun X => cell_alloc y3 X
      replace y4 := fun X => cell_alloc y4 X
      replace y5 := fun X => cell_alloc y5 X
      replace y6 := fun X => cell_alloc y6 X
      replace y7 := fun X => cell_alloc y7 X
      have q1 : decide ((o : Int) < 1) = false := decide_eq_false (by omega)
      have q2 : decide ((12 : Int) ≤ (o : Int)) = false := decide_eq_false (by omega)
      have q3 : (o : Int) < 12 := by omega
      clear h h1 h2
      go_enter Tryd.func36, Tryd.ntmps36
      go_wp2
      refine bodyPost_ret (v := .tuple #[.agg #[.string (nmb o), .bool (Sp.hs o), .bool (Sp.hj o), .bool (Sp.hn o), .int .i64 (Sp.ln o), .int .i64 (Sp.mn o), .bool (Sp.hk o), .int .i64 (Sp.ct o)], .bool true]) (by simp [results, Tryd.results36, go_sem]) rfl ⟨rfl, ?_⟩
      exact (Below.refl _ _).alloc (Nat.le_refl _) _
/-- nil, or ErrProgram -/
def fev (al : List Addr) (b : Bool) : Value := bif b then .nilIface else ek al 8
def sv (s : Sp.St) : Value := sva s.op s.dst s.src s.jump s.count s.n s.k
def Pe (w : World) (al : List Addr) : Prop := w.cell? ⟨0, 0, none⟩ = some (ek al 8)
theorem Pe.below {w w' : World} {al : List Addr} (h : Pe w al) (hb : Below w.heap.size w w') : Pe w' al := (hb.cell (cell_lt h)).trans h
theorem ct_cases (o : Nat) : Sp.ct o = 0 ∨ Sp.ct o = 1 ∨ Sp.ct o = 2 ∨ Sp.ct o = 3 := by
  unfold Sp.ct
  by_cases h1 : o = 5
  · simp [h1]
  · by_cases h2 : o = 6
    · simp [h2]
    · by_cases h3 : o = 7
      · simp [h3]
      · by_cases h4 : o = 8
        · simp [h4]
        · simp [h1, h2, h3, h4]
set_option maxHeartbeats 2000000 in
theorem sform_c (s : Sp.St) (al : List Addr) (w : World) (h : Ops w) (he : Pe w al) :
    Calls Tryd.prog 24 #[sv s] w fun e w' => e = .returned (fev al (Sp.fm s)) ∧ Below w.heap.size w w' := by
  obtain ⟨op, dst, src, jump, count, n, k⟩ := s
  obtain ⟨wa, ewa⟩ : ∃ wa, Hid (w.alloc (.cells #[.int .i64 op, .int .i64 dst, .int .i64 src, .int .i64 jump, .int .i64 count, .int .i64 n, .int .i64 k] 39) = wa) := ⟨_, (rfl : _ = _)⟩
  have Ba : Hid (Below w.heap.size w wa) := by rw [← ewa.out]; exact (Below.refl _ _).alloc (Nat.le_refl _) _
  have X2 : Hid (Bst wa w.heap.size op dst src jump count n k) := by show Bst _ _ _ _ _ _ _ _ _; rw [← ewa.out]; exact Bst.new w op dst src jump count n k
  have hkn : Hid (Calls Tryd.prog 36 #[.int .i64 op] wa fun e w' => e = .returned (.tuple #[knv op, .bool (Sp.kn op)]) ∧ Below wa.heap.size wa w') := sknown_c op wa (h.below (Ba.out.mono (Nat.le_refl _)))
  have heH : Hid (Pe wa al) := he.below Ba.out
  cases hk : Sp.kn op with
  | false =>
    have e1 : Hid (fev al (Sp.fm ⟨op, dst, src, jump, count, n, k⟩) = ek al 8) := by show _ = _; unfold Sp.fm; simp only [hk]; rfl
    have e2 : knv op = op0 := by unfold knv; rw [hk]; rfl
    rw [hk, e2] at hkn
    rw [e1.out]
    unfold op0 opa at hkn
    clear hk e2 h he
    unfold sv sva
    go_enter Tryd.func24, Tryd.ntmps24
    go_upto_region 1 with fail
    rw [ewa.out]
    obtain ⟨y0, y1, y2, y3, y4, y5, y6⟩ := X2.out
    go_wp2_with fail
    refine hkn.out.mono ?_
    rintro e w1 ⟨rfl, B1⟩
    have hB : Hid (Below w.heap.size w w1) := Ba.out.trans (B1.mono Ba.out.size)
    have hp := heH.out.below B1
    unfold Pe at hp
    replace hp := fun X => cell_alloc hp X
    clear y0 y1 y2 y3 y4 y5 y6 hkn heH X2
    go_wp2_with fail
    go_ret
    exact ⟨rfl, hB.out.alloc hB.out.size _⟩
  | true =>
    obtain ⟨o, rfl⟩ : ∃ o : Nat, op = (o : Int) := ⟨op.toNat, by have := Sp.kn_iff.1 hk; omega⟩
    have e1 : Sp.fm ⟨(o : Int), dst, src, jump, count, n, k⟩ = Sp.fitv (Sp.hs o) (Sp.hj o) (Sp.hn o) (Sp.ln o) (Sp.mn o) (Sp.hk o) (Sp.ct o) dst src jump count n k := by
      unfold Sp.fm; simp only [hk, Bool.true_and]; rfl
    have e2 : knv (o : Int) = opv o := by unfold knv; rw [hk]; rfl
    rw [hk, e2] at hkn
    have hfit : Hid (∀ W, Calls Tryd.prog 37 #[opv o, sva (o : Int) dst src jump count n k] W fun e w' => e = .returned (.bool (Sp.fitv (Sp.hs o) (Sp.hj o) (Sp.hn o) (Sp.ln o) (Sp.mn o) (Sp.hk o) (Sp.ct o) dst src jump count n k)) ∧ Below W.heap.size W w') := fun W =>
      sfits_c (nmb o) (Sp.hs o) (Sp.hj o) (Sp.hn o) (Sp.hk o) (Sp.ln o) (Sp.mn o) (Sp.ct o) (o : Int) dst src jump count n k (ct_cases o) W
    obtain ⟨b, hb⟩ : ∃ b, Hid (Sp.fitv (Sp.hs o) (Sp.hj o) (Sp.hn o) (Sp.ln o) (Sp.mn o) (Sp.hk o) (Sp.ct o) dst src jump count n k = b) := ⟨_, (rfl : _ = _)⟩
    rw [hb.out] at e1 hfit
    rw [e1]
    clear e1 hb e2 hk h he
    unfold opv opa at hkn hfit
    unfold sva at hfit
    generalize nmb o = nm at hkn hfit
    generalize Sp.hs o = b1 at hkn hfit
    generalize Sp.hj o = b2 at hkn hfit
    generalize Sp.hn o = b3 at hkn hfit
    generalize Sp.ln o = l at hkn hfit
    generalize Sp.mn o = m at hkn hfit
    generalize Sp.hk o = b4 at hkn hfit
    generalize Sp.ct o = c at hkn hfit
    unfold sv sva
    go_enter Tryd.func24, Tryd.ntmps24
    go_upto_region 1 with fail
    rw [ewa.out]
    obtain ⟨y0, y1, y2, y3, y4, y5, y6⟩ := X2.out
    go_wp2_with fail
    refine hkn.out.mono ?_
    rintro e w1 ⟨rfl, B1⟩
    have Xs := X2.out.below B1
    obtain ⟨wb, ewb⟩ : ∃ wb, Hid (w1.alloc (.cells #[.string nm, .bool b1, .bool b2, .bool b3, .int .i64 l, .int .i64 m, .bool b4, .int .i64 c] 68) = wb) := ⟨_, (rfl : _ = _)⟩
    have Bb : Below w1.heap.size w1 wb := by rw [← ewb.out]; exact (Below.refl _ _).alloc (Nat.le_refl _) _
    have hB : Hid (Below w.heap.size w wb) := (Ba.out.trans (B1.mono Ba.out.size)).trans (Bb.mono (Nat.le_trans Ba.out.size B1.size))
    have hp : Hid (Pe wb al) := (heH.out.below B1).below Bb
    have Xo : Hid (Bop wb w1.heap.size nm b1 b2 b3 l m b4 c) := by show Bop _ _ _ _ _ _ _ _ _ _; rw [← ewb.out]; exact Bop.new w1 nm b1 b2 b3 l m b4 c
    have Xt : Hid (Bst wb w.heap.size o dst src jump count n k) := Xs.below Bb
    clear y0 y1 y2 y3 y4 y5 y6 hkn heH X2 B1 Bb Xs Ba
    go_upto_region 2 with fail
    rw [ewb.out]
    obtain ⟨y0, y1, y2, y3, y4, y5, y6⟩ := Xt.out
    obtain ⟨x0, x1, x2, x3, x4, x5, x6, x7⟩ := Xo.out
    go_wp2_with fail
    refine (hfit.out wb).mono ?_
    rintro e w2 ⟨rfl, B2⟩
    have hB2 : Hid (Below w.heap.size w w2) := hB.out.trans (B2.mono hB.out.size)
    have hp2 := hp.out.below B2
    unfold Pe at hp2
    clear y0 y1 y2 y3 y4 y5 y6 x0 x1 x2 x3 x4 x5 x6 x7 hfit hp Xo Xt B2 hB ewb
    cases b with
    | true =>
      go_wp2_with fail
      go_ret
      exact ⟨rfl, hB2.out⟩
    | false =>
      go_wp2_with fail
      go_ret
      exact ⟨rfl, hB2.out⟩
end Go.Proofs.YtedfjedmapimnaaDoor
