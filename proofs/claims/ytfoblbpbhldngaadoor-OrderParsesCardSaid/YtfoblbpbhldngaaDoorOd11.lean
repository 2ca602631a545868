/-
  The document's is, number: a reading's place in memory.
-/
import Derived.Test.YtfoblbpbhldngaaDoorOd10
import Derived.Deep.RegionHeld3
import Derived.Lib.SmallJoins
import Derived.Lib.HexFns
namespace Go.Proofs.YtfoblbpbhldngaaDoor
open Flo Go.RowKit Tr
open Lib (decDigits)
/-- a reading in memory: the text, the place, the orders that aren't ended -/
structure Pz (w : World) (g : Nat) (l : List UInt8) (p : Nat) (sv : Value) : Prop where
  b : w.heap[g]? = some (.cells #[.string (Bt l), .int .i64 (p : Int), sv] 52 (0, 0))
theorem Pz.c0 {w : World} {g : Nat} {l : List UInt8} {p : Nat} {sv : Value} (h : Pz w g l p sv) : w.cell? ⟨g, 0, none⟩ = some (.string (Bt l)) := by rw [Joins.cell_of_block h.b]; rfl
theorem Pz.c1 {w : World} {g : Nat} {l : List UInt8} {p : Nat} {sv : Value} (h : Pz w g l p sv) : w.cell? ⟨g, 1, none⟩ = some (.int .i64 (p : Int)) := by rw [Joins.cell_of_block h.b]; rfl
theorem Pz.c2 {w : World} {g : Nat} {l : List UInt8} {p : Nat} {sv : Value} (h : Pz w g l p sv) : w.cell? ⟨g, 2, none⟩ = some sv := by rw [Joins.cell_of_block h.b]; rfl
theorem Pz.fz {w : World} {g : Nat} {l : List UInt8} {p : Nat} {sv : Value} (h : Pz w g l p sv) (i : Nat) : w.frozen? ⟨g, i, none⟩ = false := Joins.unfrozen_of_block h.b i
theorem Pz.set {w : World} {g : Nat} {l : List UInt8} {p : Nat} {sv : Value} (h : Pz w g l p sv) (q : Nat) : Pz (w.setCell ⟨g, 1, none⟩ (.int .i64 (q : Int))) g l q sv := ⟨by rw [Joins.block_setCell h.b]; rfl⟩
theorem Pz.drew {w : World} {g : Nat} {l : List UInt8} {p : Nat} {sv : Value} (h : Pz w g l p sv) (k : Nat) : Pz (w.drewN k) g l p sv := ⟨h.b⟩
theorem gb_drew {w w' : World} {g : Option Nat} (h : w.grownBy w' g) (k : Nat) : w.grownBy (w'.drewN k) g := ⟨h.os, h.tape, h.output, h.size, h.block⟩
theorem mt_step {a : UInt8} {t l : List UInt8} {i p : Nat} (ht : t[i]? = some a) (hl : l[p + i]? = some a) (h : i ≤ Ps.mt t (l.drop p)) : i + 1 ≤ Ps.mt t (l.drop p) := by
  induction t generalizing i p with
  | nil => simp at ht
  | cons x t ih =>
    cases hd : l.drop p with
    | nil =>
      have h1 : (l.drop p)[i]? = some a := by rw [List.getElem?_drop]; exact hl
      rw [hd] at h1; simp at h1
    | cons y m =>
      rw [hd] at h
      have hm : m = l.drop (p + 1) := by rw [← List.drop_drop, hd]; rfl
      cases i with
      | zero =>
        have e1 : x = a := by simpa using ht
        have e2 : y = a := by
          have h1 : (l.drop p)[0]? = some a := by rw [List.getElem?_drop]; exact hl
          rw [hd] at h1; simpa using h1
        show 1 ≤ (if x = y then Ps.mt t m + 1 else 0)
        rw [if_pos (by rw [e1, e2])]; omega
      | succ i =>
        have h2 : i + 1 ≤ (if x = y then Ps.mt t m + 1 else 0) := h
        show i + 1 + 1 ≤ (if x = y then Ps.mt t m + 1 else 0)
        by_cases e : x = y
        · rw [if_pos e] at h2 ⊢
          have := ih (i := i) (p := p + 1) (by simpa using ht) (by rw [show p + 1 + i = p + (i + 1) by omega]; exact hl) (by rw [← hm]; omega)
          rw [← hm] at this; omega
        · rw [if_neg e] at h2; omega
theorem mt_stop {t l : List UInt8} {i p : Nat} (hn : ∀ a, t[i]? = some a → l[p + i]? ≠ some a) (h : i ≤ Ps.mt t (l.drop p)) : Ps.mt t (l.drop p) = i := by
  induction t generalizing i p with
  | nil => simp [Ps.mt] at h ⊢; omega
  | cons x t ih =>
    cases hd : l.drop p with
    | nil => rw [hd] at h; simp [Ps.mt] at h ⊢; omega
    | cons y m =>
      rw [hd] at h
      have hm : m = l.drop (p + 1) := by rw [← List.drop_drop, hd]; rfl
      cases i with
      | zero =>
        show (if x = y then Ps.mt t m + 1 else 0) = 0
        rw [if_neg]
        intro e
        refine hn x rfl ?_
        have h1 : (l.drop p)[0]? = some y := by rw [hd]; rfl
        rw [List.getElem?_drop] at h1
        rw [e]; exact h1
      | succ i =>
        have h2 : i + 1 ≤ (if x = y then Ps.mt t m + 1 else 0) := h
        show (if x = y then Ps.mt t m + 1 else 0) = i + 1
        by_cases e : x = y
        · rw [if_pos e] at h2 ⊢
          have := ih (i := i) (p := p + 1) (fun a ha => by rw [show p + 1 + i = p + (i + 1) by omega]; exact hn a (by simpa using ha)) (by rw [← hm]; omega)
          rw [← hm] at this; omega
        · rw [if_neg e] at h2; omega
theorem bt_get (l : List UInt8) (i : Nat) (h : i < (Bt l).size) : l[i]? = some ((Bt l)[i]) := by
  have h2 : i < (Bt l).data.toList.length := h
  have e : (Bt l).data.toList[i]? = some ((Bt l)[i]) := by rw [List.getElem?_eq_getElem h2]; rfl
  rw [Bt_data] at e; exact e
set_option maxRecDepth 100000 in
set_option maxHeartbeats 1000000 in
theorem ris_c (g p : Nat) (l t : List UInt8) (sv : Value) (w : World) (hz : Pz w g l p sv) (hl : l.length ≤ 65536) (hp : p ≤ l.length) (ht : t.length ≤ 10) :
    Calls Tryd.prog 36 #[.pointer (some ⟨g, 0, none⟩), .string (Bt t)] w fun e w' => e = .returned (.bool (decide (Ps.mt t (l.drop p) = t.length))) ∧ Pz w' g l (p + Ps.mt t (l.drop p)) sv ∧ w.grownBy w' (some g) := by
  obtain ⟨M, hM⟩ : ∃ M : Nat, Hid (Ps.mt t (l.drop p) = M) := ⟨_, (rfl : _ = _)⟩
  rw [hM.out]
  go_enter Tryd.func36, Tryd.ntmps36
  go_wp2_with fail
  go_loopw [5] (fun si wx => ∃ i q : Nat, i ≤ t.length ∧ Hid (i ≤ M) ∧ q ≤ l.length ∧ Hid (q = p + i) ∧ si = .int .i64 (i : Int) ∧ Hid (Pz wx g l q sv) ∧ Hid (w.grownBy wx (some g))) (fun si _ => t.length - (intOf si).toNat)
  case atStart => exact ⟨0, p, Nat.zero_le _, Nat.zero_le _, hp, (rfl : _ = _), rfl, hz, World.grownBy.refl _ _⟩
  case round =>
    obtain ⟨i, q, hi, hiM, hql, hq, rfl, hz, hg⟩ := hrel
    have c0 := hz.out.c0
    have c1 := hz.out.c1
    have f1 := hz.out.fz 1
    have eT : Hid ((Bt t).size = t.length) := Bt_size t
    have eL : Hid ((Bt l).size = l.length) := Bt_size l
    by_cases hlt : i < (Bt t).size
    · have hlt' : (i : Int) < ((Bt t).size : Int) := by omega
      have hy := bt_get t i hlt
      by_cases hlq : q < (Bt l).size
      · have hlq' : decide ((q : Int) = ((Bt l).size : Int)) = false := decide_eq_false (by omega)
        have hx := bt_get l q hlq
        have h64 : (Bt l).size ≤ 65536 := by rw [eL.out]; exact hl
        have hlq2 : (q : Int) < ((Bt l).size : Int) := by omega
        have hlq3 : ((q : Int) == ((Bt l).size : Int)) = false := beq_eq_false_iff_ne.2 (by omega)
        by_cases hxy : (Bt l)[q].toNat = (Bt t)[i].toNat
        · have hst : Hid (i + 1 ≤ M) := by
            show _ ≤ _
            rw [← hM.out]
            refine mt_step hy ?_ (by rw [hM.out]; exact hiM.out)
            rw [← hq.out, hx, UInt8.toNat_inj.1 hxy]
          have hi1 : i + 1 ≤ t.length := by rw [← eT.out]; omega
          have hq1 : q + 1 ≤ l.length := by rw [← eL.out]; omega
          have hz1 : Hid (∀ D, Pz ((wr.drewN D).setCell ⟨g, 1, none⟩ (.int .i64 ((q : Int) + 1))) g l (q + 1) sv) := fun D => (hz.out.drew D).set (q + 1)
          have hg1 : Hid (∀ D, w.grownBy ((wr.drewN D).setCell ⟨g, 1, none⟩ (.int .i64 ((q : Int) + 1))) (some g)) := fun D => Lib.Hx.grownBy_set (gb_drew hg.out D) ⟨g, 1, none⟩ rfl _
          have hq2 : Hid (q + 1 = p + (i + 1)) := by show _ = _; rw [hq.out]; omega
          have hxy2 : (((Bt l)[q].toNat : Int) != ((Bt t)[i].toNat : Int)) = false := bne_eq_false_iff_eq.2 (congrArg Int.ofNat hxy)
          clear hy hx
          have d0 : ∀ D, (wr.drewN D).cell? ⟨g, 0, none⟩ = some (.string (Bt l)) := fun D => (hz.out.drew D).c0
          have d1 : ∀ D, (wr.drewN D).cell? ⟨g, 1, none⟩ = some (.int .i64 (q : Int)) := fun D => (hz.out.drew D).c1
          have d2 : ∀ D, (wr.drewN D).frozen? ⟨g, 1, none⟩ = false := fun D => (hz.out.drew D).fz 1
          go_wp2_with fail
          go_quiet (fail)
          go_wp2_with fail
          go_roundw
          case rel => exact ⟨i + 1, q + 1, hi1, hst, hq1, hq2, by go_num, hz1.out _, hg1.out _⟩
          case measure => simp [intOf]; omega
        · have hst : Hid (M = i) := by
            show _ = _
            rw [← hM.out]
            refine mt_stop (fun a ha => ?_) (by rw [hM.out]; exact hiM.out)
            rw [← hq.out, hx]
            rw [hy] at ha
            intro e
            cases ha
            exact hxy (by rw [Option.some.inj e])
          have hxy2 : (((Bt l)[q].toNat : Int) != ((Bt t)[i].toNat : Int)) = true := bne_iff_ne.2 (fun e => hxy (Int.ofNat.inj e))
          have hfin : Hid (∀ D, Pz (wr.drewN D) g l (p + M) sv) := fun D => by rw [hst.out, ← hq.out]; exact hz.out.drew D
          have hfin2 : Hid (∀ D, w.grownBy (wr.drewN D) (some g)) := fun D => gb_drew hg.out D
          have hfin3 : Hid (decide (M = t.length) = false) := decide_eq_false (by rw [hst.out, ← eT.out]; omega)
          clear hy hx
          have d0 : ∀ D, (wr.drewN D).cell? ⟨g, 0, none⟩ = some (.string (Bt l)) := fun D => (hz.out.drew D).c0
          have d1 : ∀ D, (wr.drewN D).cell? ⟨g, 1, none⟩ = some (.int .i64 (q : Int)) := fun D => (hz.out.drew D).c1
          go_wp2_with fail
          go_quiet (fail)
          go_wp2_with fail
          go_ret
          exact ⟨by rw [hfin3.out]; rfl, hfin.out _, hfin2.out _⟩
      · have hqe : (q : Int) = ((Bt l).size : Int) := by rw [eL.out] at hlq ⊢; omega
        have hlq3 : ((q : Int) == ((Bt l).size : Int)) = true := beq_iff_eq.2 hqe
        have hlq4 : decide ((q : Int) = ((Bt l).size : Int)) = true := decide_eq_true hqe
        have hst : Hid (M = i) := by
          show _ = _
          rw [← hM.out]
          refine mt_stop (fun a ha => ?_) (by rw [hM.out]; exact hiM.out)
          rw [← hq.out, List.getElem?_eq_none (by rw [← eL.out]; omega)]
          intro e; cases e
        have hfin : Hid (∀ D, Pz (wr.drewN D) g l (p + M) sv) := fun D => by rw [hst.out, ← hq.out]; exact hz.out.drew D
        have hfin2 : Hid (∀ D, w.grownBy (wr.drewN D) (some g)) := fun D => gb_drew hg.out D
        have hfin3 : Hid (decide (M = t.length) = false) := decide_eq_false (by rw [hst.out, ← eT.out]; omega)
        clear hy
        have d0 : ∀ D, (wr.drewN D).cell? ⟨g, 0, none⟩ = some (.string (Bt l)) := fun D => (hz.out.drew D).c0
        have d1 : ∀ D, (wr.drewN D).cell? ⟨g, 1, none⟩ = some (.int .i64 (q : Int)) := fun D => (hz.out.drew D).c1
        go_wp2_with fail
        go_region
        go_wp2_with fail
        go_ret
        exact ⟨by rw [hfin3.out]; rfl, hfin.out _, hfin2.out _⟩
    · have hlt' : decide ((i : Int) < ((Bt t).size : Int)) = false := decide_eq_false (by omega)
      have hst : Hid (M = t.length) := by
        show _ = _
        have h1 := Ps.mt_le1 t (l.drop p)
        rw [hM.out] at h1
        have h2 := hiM.out
        rw [eT.out] at hlt
        omega
      have hfin : Hid (Pz wr g l (p + M) sv) := by
        have e : p + M = q := by rw [hst.out, hq.out]; rw [eT.out] at hlt; omega
        rw [e]; exact hz.out
      have hfin3 : Hid (decide (M = t.length) = true) := decide_eq_true hst.out
      go_wp2_with fail
      go_ret
      exact ⟨by rw [hfin3.out]; rfl, hfin.out, hg.out⟩
end Go.Proofs.YtfoblbpbhldngaaDoor
