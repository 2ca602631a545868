/-
  The program's reader: giveUp, takes, needs.
-/
import Derived.Test.YtfoblbpbhldngaaDoorOd12
import Derived.Test.YtfoblbpbhldngaaDoorOc1
import Derived.Recover
namespace Go.Proofs.YtfoblbpbhldngaaDoor
open Flo Go.RowKit Tr
open Lib (decDigits)
/-- a reader in memory: the text, the place -/
structure Rz (w : World) (g : Nat) (l : List UInt8) (p : Nat) : Prop where
  b : w.heap[g]? = some (.cells #[.string (Bt l), .int .i64 (p : Int)] 67 (0, 0))
namespace Rz
theorem c0 {w : World} {g : Nat} {l : List UInt8} {p : Nat} (h : Rz w g l p) : w.cell? ⟨g, 0, none⟩ = some (.string (Bt l)) := by rw [Joins.cell_of_block h.b]; rfl
theorem c1 {w : World} {g : Nat} {l : List UInt8} {p : Nat} (h : Rz w g l p) : w.cell? ⟨g, 1, none⟩ = some (.int .i64 (p : Int)) := by rw [Joins.cell_of_block h.b]; rfl
theorem fz {w : World} {g : Nat} {l : List UInt8} {p : Nat} (h : Rz w g l p) (i : Nat) : w.frozen? ⟨g, i, none⟩ = false := Joins.unfrozen_of_block h.b i
theorem lt {w : World} {g : Nat} {l : List UInt8} {p : Nat} (h : Rz w g l p) : g < w.heap.size := (Array.getElem?_eq_some_iff.1 h.b).1
theorem set {w : World} {g : Nat} {l : List UInt8} {p : Nat} (h : Rz w g l p) (q : Nat) : Rz (w.setCell ⟨g, 1, none⟩ (.int .i64 (q : Int))) g l q := ⟨by rw [Joins.block_setCell h.b]; rfl⟩
theorem dr {w : World} {g : Nat} {l : List UInt8} {p : Nat} (h : Rz w g l p) (k : Nat) : Rz (w.drewN k) g l p := ⟨h.b⟩
theorem bel {w w' : World} {g : Nat} {l : List UInt8} {p : Nat} (h : Rz w g l p) (hb : Below w.heap.size w w') : Rz w' g l p := ⟨(hb.block g h.lt).trans h.b⟩
end Rz
/-- the sentinel of a text that doesn't fit -/
def Et (w : World) (a : Addr) : Prop := w.cell? ⟨2, 0, none⟩ = some (ev a)
theorem Et.kept {w w' : World} {a : Addr} {g : Nat} (h : Et w a) (hg : w.grownBy w' (some g)) (hne : 2 < g) : Et w' a := hg.cell (a := ⟨2, 0, none⟩) h (fun e => by have := Option.some.inj e; simp at this; omega)
theorem Et.dr {w : World} {a : Addr} (h : Et w a) (k : Nat) : Et (w.drewN k) a := h
/-- that panic -/
def pan (a : Addr) : List PanicEntry := [{ v := ev a, recovered := false }]
theorem giveUp_c (g : Nat) (a : Addr) (w : World) (h : Et w a) : Calls Tryd.prog 34 #[.pointer (some ⟨g, 0, none⟩)] w fun e w' => e = .panicked (pan a) ∧ w' = w := by
  have h0 : w.cell? ⟨2, 0, none⟩ = some (ev a) := h
  unfold ev at h0
  go_enter Tryd.func34, Tryd.ntmps34
  go_wp2_with fail
  exact ⟨rfl, rfl, rfl⟩
set_option maxRecDepth 100000 in
set_option maxHeartbeats 1000000 in
theorem takes_t (g p : Nat) (l : List UInt8) (b : UInt8) (w : World) (hz : Rz w g l p) (hl : l.length ≤ 65536) (hb : l[p]? = some b) :
    Calls Tryd.prog 46 #[.pointer (some ⟨g, 0, none⟩), .int .u8 (b.toNat : Int)] w fun e w' => e = .returned (.bool true) ∧ Rz w' g l (p + 1) ∧ w.grownBy w' (some g) := by
  have eL : Hid ((Bt l).size = l.length) := Bt_size l
  have hp : p < l.length := (List.getElem?_eq_some_iff.1 hb).1
  have hlq : p < (Bt l).size := by rw [eL.out]; exact hp
  have hx := bt_get l p hlq
  have hxb : (Bt l)[p].toNat = b.toNat := by rw [hx] at hb; rw [Option.some.inj hb]
  have h64 : (Bt l).size ≤ 65536 := by rw [eL.out]; exact hl
  have hlq2 : (p : Int) < ((Bt l).size : Int) := by omega
  have hlq' : decide ((p : Int) = ((Bt l).size : Int)) = false := decide_eq_false (by omega)
  have hlq3 : ((p : Int) == ((Bt l).size : Int)) = false := beq_eq_false_iff_ne.2 (by omega)
  have hxy2 : (((Bt l)[p].toNat : Int) != (b.toNat : Int)) = false := bne_eq_false_iff_eq.2 (congrArg Int.ofNat hxb)
  have hz1 : Hid (∀ D, Rz ((w.drewN D).setCell ⟨g, 1, none⟩ (.int .i64 ((p : Int) + 1))) g l (p + 1)) := fun D => (hz.dr D).set (p + 1)
  have hg1 : Hid (∀ D, w.grownBy ((w.drewN D).setCell ⟨g, 1, none⟩ (.int .i64 ((p : Int) + 1))) (some g)) := fun D => Lib.Hx.grownBy_set (gb_dr (Lib.Hx.grownBy_refl _ _) D) ⟨g, 1, none⟩ rfl _
  have d0 : ∀ D, (w.drewN D).cell? ⟨g, 0, none⟩ = some (.string (Bt l)) := fun D => (hz.dr D).c0
  have d1 : ∀ D, (w.drewN D).cell? ⟨g, 1, none⟩ = some (.int .i64 (p : Int)) := fun D => (hz.dr D).c1
  have d2 : ∀ D, (w.drewN D).frozen? ⟨g, 1, none⟩ = false := fun D => (hz.dr D).fz 1
  have c0 := hz.c0
  have c1 := hz.c1
  clear hx hb hz hxb
  go_enter Tryd.func46, Tryd.ntmps46
  go_wp2_with fail
  go_quiet (fail)
  go_wp2_with fail
  go_ret
  exact ⟨rfl, hz1.out _, hg1.out _⟩
set_option maxRecDepth 100000 in
set_option maxHeartbeats 1000000 in
theorem takes_f (g p : Nat) (l : List UInt8) (b : UInt8) (w : World) (hz : Rz w g l p) (hl : l.length ≤ 65536) (hp : p ≤ l.length) (hb : l[p]? ≠ some b) :
    Calls Tryd.prog 46 #[.pointer (some ⟨g, 0, none⟩), .int .u8 (b.toNat : Int)] w fun e w' => e = .returned (.bool false) ∧ Rz w' g l p ∧ w.grownBy w' (some g) := by
  have eL : Hid ((Bt l).size = l.length) := Bt_size l
  have h64 : (Bt l).size ≤ 65536 := by rw [eL.out]; exact hl
  have hz1 : Hid (∀ D, Rz (w.drewN D) g l p) := fun D => hz.dr D
  have hg1 : Hid (∀ D, w.grownBy (w.drewN D) (some g)) := fun D => gb_dr (Lib.Hx.grownBy_refl _ _) D
  have d0 : ∀ D, (w.drewN D).cell? ⟨g, 0, none⟩ = some (.string (Bt l)) := fun D => (hz.dr D).c0
  have d1 : ∀ D, (w.drewN D).cell? ⟨g, 1, none⟩ = some (.int .i64 (p : Int)) := fun D => (hz.dr D).c1
  have c0 := hz.c0
  have c1 := hz.c1
  by_cases hlq : p < (Bt l).size
  · have hx := bt_get l p hlq
    have hxb : (Bt l)[p].toNat ≠ b.toNat := fun e => hb (by rw [hx, UInt8.toNat_inj.1 e])
    have hlq2 : (p : Int) < ((Bt l).size : Int) := by omega
    have hlq' : decide ((p : Int) = ((Bt l).size : Int)) = false := decide_eq_false (by omega)
    have hlq3 : ((p : Int) == ((Bt l).size : Int)) = false := beq_eq_false_iff_ne.2 (by omega)
    have hxy2 : (((Bt l)[p].toNat : Int) != (b.toNat : Int)) = true := bne_iff_ne.2 (fun e => hxb (Int.ofNat.inj e))
    clear hx hb hz hxb
    go_enter Tryd.func46, Tryd.ntmps46
    go_wp2_with fail
    go_quiet (fail)
    go_wp2_with fail
    go_ret
    exact ⟨rfl, hz1.out _, hg1.out _⟩
  · have hqe : (p : Int) = ((Bt l).size : Int) := by rw [eL.out] at hlq ⊢; omega
    have hlq3 : ((p : Int) == ((Bt l).size : Int)) = true := beq_iff_eq.2 hqe
    have hlq4 : decide ((p : Int) = ((Bt l).size : Int)) = true := decide_eq_true hqe
    clear hb hz
    go_enter Tryd.func46, Tryd.ntmps46
    go_wp2_with fail
    go_region
    go_wp2_with fail
    go_ret
    exact ⟨rfl, hz1.out _, hg1.out _⟩
/-- what is told of a text that must stand here -/
def NE (g p M L : Nat) (l : List UInt8) (a : Addr) (w : World) (e : Ending) (w' : World) : Prop := Rz w' g l (p + M) ∧ w.grownBy w' (some g) ∧ (M = L → e = .returned (.tuple #[])) ∧ (M ≠ L → e = .panicked (pan a))
set_option maxRecDepth 100000 in
set_option maxHeartbeats 1000000 in
theorem needs_c (g p : Nat) (l t : List UInt8) (a : Addr) (w : World) (hz : Rz w g l p) (hE : Et w a) (hgE : 2 < g) (hl : l.length ≤ 65536) (hp : p ≤ l.length) (ht : t.length ≤ 10) :
    Calls Tryd.prog 48 #[.pointer (some ⟨g, 0, none⟩), .string (Bt t)] w (NE g p (Ps.mt t (l.drop p)) t.length l a w) := by
  obtain ⟨M, hM⟩ : ∃ M : Nat, Hid (Ps.mt t (l.drop p) = M) := ⟨_, (rfl : _ = _)⟩
  rw [hM.out]
  have eT : Hid ((Bt t).size = t.length) := Bt_size t
  have hts : (Bt t).size ≤ 10 := by rw [eT.out]; exact ht
  go_enter Tryd.func48, Tryd.ntmps48
  go_wp2_with fail
  go_loopw [7] (fun si wx => ∃ i q : Nat, i ≤ t.length ∧ Hid (i ≤ M) ∧ q ≤ l.length ∧ Hid (q = p + i) ∧ si = .int .i64 (i : Int) ∧ Hid (Rz wx g l q) ∧ Hid (w.grownBy wx (some g)) ∧ Hid (Et wx a)) (fun si _ => t.length - (intOf si).toNat)
  case atStart => exact ⟨0, p, Nat.zero_le _, Nat.zero_le _, hp, (rfl : _ = _), rfl, hz, World.grownBy.refl _ _, hE⟩
  case round =>
    obtain ⟨i, q, hi, hiM, hql, hq, rfl, hzr, hg, hEr⟩ := hrel
    by_cases hlt : i < (Bt t).size
    · have hlt' : (i : Int) < ((Bt t).size : Int) := by omega
      have hy := bt_get t i hlt
      by_cases hlb : l[q]? = some ((Bt t)[i])
      · have hst : Hid (i + 1 ≤ M) := by
          show _ ≤ _
          rw [← hM.out]
          exact mt_step hy (by rw [← hq.out]; exact hlb) (by rw [hM.out]; exact hiM.out)
        have hi1 : i + 1 ≤ t.length := by rw [← eT.out]; omega
        have hq1 : q + 1 ≤ l.length := (List.getElem?_eq_some_iff.1 hlb).1
        have hq2 : Hid (q + 1 = p + (i + 1)) := by show _ = _; rw [hq.out]; omega
        have hc : Hid (Calls Tryd.prog 46 #[.pointer (some ⟨g, 0, none⟩), .int .u8 (((Bt t)[i]).toNat : Int)] wr fun e w' => e = .returned (.bool true) ∧ Rz w' g l (q + 1) ∧ wr.grownBy w' (some g)) := takes_t g q l _ wr hzr.out hl hlb
        clear hy hlb
        go_wp2_with fail
        refine hc.out.mono ?_
        rintro e w1 ⟨rfl, hz1, hg1⟩
        have hz1H : Hid (Rz w1 g l (q + 1)) := hz1
        have hg1H : Hid (w.grownBy w1 (some g)) := gb_tr hg.out hg1
        have hE1H : Hid (Et w1 a) := hEr.out.kept hg1 hgE
        clear hz1 hg1 hc
        go_wp2_with fail
        go_roundw
        case rel => exact ⟨i + 1, q + 1, hi1, hst, hq1, hq2, by go_num, hz1H, hg1H, hE1H⟩
        case measure => simp [intOf]; omega
      · have hst : Hid (M = i) := by
          show _ = _
          rw [← hM.out]
          refine mt_stop (fun b hb => ?_) (by rw [hM.out]; exact hiM.out)
          rw [← hq.out]
          rw [hy] at hb
          intro e
          exact hlb (by rw [e]; exact hb.symm)
        have hc : Hid (Calls Tryd.prog 46 #[.pointer (some ⟨g, 0, none⟩), .int .u8 (((Bt t)[i]).toNat : Int)] wr fun e w' => e = .returned (.bool false) ∧ Rz w' g l q ∧ wr.grownBy w' (some g)) := takes_f g q l _ wr hzr.out hl hql hlb
        have hne : Hid (M ≠ t.length) := by show _ ≠ _; rw [hst.out, ← eT.out]; omega
        clear hy hlb
        go_wp2_with fail
        refine hc.out.mono ?_
        rintro e w1 ⟨rfl, hz1, hg1⟩
        have hfin : Hid (NE g p M t.length l a w (.panicked (pan a)) w1) := ⟨by rw [hst.out, ← hq.out]; exact hz1, gb_tr hg.out hg1, fun h => absurd h hne.out, fun _ => rfl⟩
        have hE1H : Hid (Et w1 a) := hEr.out.kept hg1 hgE
        clear hz1 hg1 hc
        go_wp2_with fail
        refine (giveUp_c g a w1 hE1H.out).mono ?_
        rintro e w2 ⟨rfl, rfl⟩
        go_wp2_with fail
        exact ⟨rfl, hfin.out⟩
    · have hlt' : decide ((i : Int) < ((Bt t).size : Int)) = false := decide_eq_false (by omega)
      have hst : Hid (M = t.length) := by
        show _ = _
        have h1 := Ps.mt_le1 t (l.drop p)
        rw [hM.out] at h1
        have h2 := hiM.out
        rw [eT.out] at hlt
        omega
      have hfin : Hid (NE g p M t.length l a w (.returned (.tuple #[])) wr) := by
        have e : p + M = q := by rw [hst.out, hq.out]; rw [eT.out] at hlt; omega
        exact ⟨by rw [e]; exact hzr.out, hg.out, fun _ => rfl, fun h => absurd hst.out h⟩
      go_wp2_with fail
      go_end0
      exact hfin.out
end Go.Proofs.YtfoblbpbhldngaaDoor
