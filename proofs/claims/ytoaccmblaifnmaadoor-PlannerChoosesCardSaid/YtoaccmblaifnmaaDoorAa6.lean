/-
  The program's reader: giveUp, takes, needs.
-/
import Derived.Test.YtoaccmblaifnmaaDoorAa5
import Derived.Test.YtoaccmblaifnmaaDoorOc1
import Derived.Recover
namespace Go.Proofs.YtoaccmblaifnmaaDoor
open Flo Go.RowKit Tr
open Lib (decDigits)
/-- a reader in memory: the text, the place -/
structure Rz (w : World) (g : Nat) (l : List UInt8) (p : Nat) : Prop where
  b : w.heap[g]? = some (.cells #[.string (Bt l), .int .i64 (p : Int)] 96 (0, 0))
namespace Rz
theorem c0 {w : World} {g : Nat} {l : List UInt8} {p : Nat} (h : Rz w g l p) : w.cell? ⟨g, 0, none⟩ = some (.string (Bt l)) := by rw [Joins.cell_of_block h.b]; rfl
theorem c1 {w : World} {g : Nat} {l : List UInt8} {p : Nat} (h : Rz w g l p) : w.cell? ⟨g, 1, none⟩ = some (.int .i64 (p : Int)) := by rw [Joins.cell_of_block h.b]; rfl
theorem fz {w : World} {g : Nat} {l : List UInt8} {p : Nat} (h : Rz w g l p) (i : Nat) : w.frozen? ⟨g, i, none⟩ = false := Joins.unfrozen_of_block h.b i
theorem lt {w : World} {g : Nat} {l : List UInt8} {p : Nat} (h : Rz w g l p) : g < w.heap.size := (Array.getElem?_eq_some_iff.1 h.b).1
theorem set {w : World} {g : Nat} {l : List UInt8} {p : Nat} (h : Rz w g l p) (q : Nat) : Rz (w.setCell ⟨g, 1, none⟩ (.int .i64 (q : Int))) g l q := ⟨by rw [Joins.block_setCell h.b]; rfl⟩
theorem dr {w : World} {g : Nat} {l : List UInt8} {p : Nat} (h : Rz w g l p) (k : Nat) : Rz (w.drewN k) g l p := ⟨h.b⟩
theorem bel {w w' : World} {g : Nat} {l : List UInt8} {p : Nat} (h : Rz w g l p) (hb : Below w.heap.size w w') : Rz w' g l p := ⟨(hb.block g h.lt).trans h.b⟩
end Rz
/-- the sentinel of a text that doesn't fit -/
def Et (w : World) (a : Addr) : Prop := w.cell? ⟨3, 0, none⟩ = some (ev a)
theorem Et.kept {w w' : World} {a : Addr} {g : Nat} (h : Et w a) (hg : w.grownBy w' (some g)) (hne : 3 < g) : Et w' a := hg.cell (a := ⟨3, 0, none⟩) h (fun e => by have := Option.some.inj e; simp at this; omega)
theorem Et.dr {w : World} {a : Addr} (h : Et w a) (k : Nat) : Et (w.drewN k) a := h
/-- that panic -/
def pan (a : Addr) : List PanicEntry := [{ v := ev a, recovered := false }]
theorem giveUp_c (g : Nat) (a : Addr) (w : World) (h : Et w a) : Calls Tryd.prog 67 #[.pointer (some ⟨g, 0, none⟩)] w fun e w' => e = .panicked (pan a) ∧ w' = w := by
  have h0 : w.cell? ⟨3, 0, none⟩ = some (ev a) := h
  unfold ev at h0
  go_enter Tryd.func67, Tryd.ntmps67
  go_wp2_with fail
  exact ⟨rfl, rfl, rfl⟩
set_option maxRecDepth 100000 in
set_option maxHeartbeats 1000000 in
theorem takes_t (g p : Nat) (l : List UInt8) (b : UInt8) (w : World) (hz : Rz w g l p) (hl : l.length ≤ 65536) (hb : l[p]? = some b) :
    Calls Tryd.prog 87 #[.pointer (some ⟨g, 0, none⟩), .int .u8 (b.toNat : Int)] w fun e w' => e = .returned (.bool true) ∧ Rz w' g l (p + 1) ∧ w.grownBy w' (some g) := by
  have eL : Hid ((Bt l).size = l.length) := Bt_size l
  have hp : p < l.length := (List.getElem?_eq_some_iff.1 hb).1
  have hlq : p < (Bt l).size := by rw [eL.out]; exact hp
  have hx := bt_get l p hlq
  have hxb : (Bt l)[p].toNat = b.toNat := by rw [hx] at hb; rw [Option.some.inj hb]
  have h64 : (Bt l).size ≤ 65536 := by rw [eL.out]; exact hl
  have hlq2 : (p : Int) < ((Bt l).size : Int) := by omega
  have hlq' : decide ((p : Int) = ((Bt l).size : Int)) = false := decide_eq_false (by omega)
  have hlq3 : ((p : Int) == ((Bt l).size : Int)) = false := beq_eq_false_iff_ne.2 (by omega)
  have hxy2 : (((Bt l)[p].toNat : Int) != (b.toNat : Int)) = false := bne_eq_false_iff_eq.2 (congrArg Int.ofNat hxb)
  have hz1 : Hid (∀ D, Rz ((w.drewN D).setCell ⟨g, 1, none⟩ (.int .i64 ((p : Int) + 1))) g l (p + 1)) := fun D => (hz.dr D).set (p + 1)
  have hg1 : Hid (∀ D, w.grownBy ((w.drewN D).setCell ⟨g, 1, none⟩ (.int .i64 ((p : Int) + 1))) (some g)) := fun D => Lib.Hx.grownBy_set (gb_dr (Lib.Hx.grownBy_refl _ _) D) ⟨g, 1, none⟩ rfl _
  have d0 : ∀ D, (w.drewN D).cell? ⟨g, 0, none⟩ = some (.string (Bt l)) := fun D => (hz.dr D).c0
  have d1 : ∀ D, (w.drewN D).cell? ⟨g, 1, none⟩ = some (.int .i64 (p : Int)) := fun D => (hz.dr D).c1
  have d2 : ∀ D, (w.drewN D).frozen? ⟨g, 1, none⟩ = false := fun D => (hz.dr D).fz 1
  have c0 := hz.c0
  have c1 := hz.c1
  clear hx hb hz hxb
  go_enter Tryd.func87, Tryd.ntmps87
  go_wp2_with fail
  go_quiet (fail)
  go_wp2_with fail
  go_ret
  exact ⟨rfl, hz1.out _, hg1.out _⟩
set_option maxRecDepth 100000 in
set_option maxHeartbeats 1000000 in
theorem takes_f (g p : Nat) (l : List UInt8) (b : UInt8) (w : World) (hz : Rz w g l p) (hl : l.length ≤ 65536) (hp : p ≤ l.length) (hb : l[p]? ≠ some b) :
    Calls Tryd.prog 87 #[.pointer (some ⟨g, 0, none⟩), .int .u8 (b.toNat : Int)] w fun e w' => e = .returned (.bool false) ∧ Rz w' g l p ∧ w.grownBy w' (some g) := by
  have eL : Hid ((Bt l).size = l.length) := Bt_size l
  have h64 : (Bt l).size ≤ 65536 := by rw [eL.out]; exact hl
  have hz1 : Hid (∀ D, Rz (w.drewN D) g l p) := fun D => hz.dr D
  have hg1 : Hid (∀ D, w.grownBy (w.drewN D) (some g)) := fun D => gb_dr (Lib.Hx.grownBy_refl _ _) D
  have d0 : ∀ D, (w.drewN D).cell? ⟨g, 0, none⟩ = some (.string (Bt l)) := fun D => (hz.dr D).c0
  have d1 : ∀ D, (w.drewN D).cell? ⟨g, 1, none⟩ = some (.int .i64 (p : Int)) := fun D => (hz.dr D).c1
  have c0 := hz.c0
  have c1 := hz.c1
  by_cases hlq : p < (Bt l).size
  · have hx := bt_get l p hlq
    have hxb : (Bt l)[p].toNat ≠ b.toNat := fun e => hb (by rw [hx, UInt8.toNat_inj.1 e])
    have hlq2 : (p : Int) < ((Bt l).size : Int) := by omega
    have hlq' : decide ((p : Int) = ((Bt l).size : Int)) = false := decide_eq_false (by omega)
    have hlq3 : ((p : Int) == ((Bt l).size : Int)) = false := beq_eq_false_iff_ne.2 (by omega)
    have hxy2 : (((Bt l)[p].toNat : Int) != (b.toNat : Int)) = true := bne_iff_ne.2 (fun e => hxb (Int.ofNat.inj e))
    clear hx hb hz hxb
    go_enter Tryd.func87, Tryd.ntmps87
    go_wp2_with fail
    go_quiet (fail)
    go_wp2_with fail
    go_ret
    exact ⟨rfl, hz1.out _, hg1.out _⟩
  · have hqe : (p : Int) = ((Bt l).size : Int) := by rw [eL.out] at hlq ⊢; omega
    have hlq3 : ((p : Int) == ((Bt l).size : Int)) = true := beq_iff_eq.2 hqe
    have hlq4 : decide ((p : Int) = ((Bt l).size : Int)) = true := decide_eq_true hqe
    clear hb hz
    go_enter Tryd.func87, Tryd.ntmps87
    go_wp2_with fail
    go_region
    go_wp2_with fail
    go_ret
    exact ⟨rfl, hz1.out _, hg1.out _⟩
/-- what is told of a text that must stand here -/
def NE (g p M L : Nat) (l : List UInt8) (a : Addr) (w : World) (e : Ending) (w' : World) : Prop := Rz w' g l (p + M) ∧ w.grownBy w' (some g) ∧ (M = L → e = .returned (.tuple #[])) ∧ (M ≠ L → e = .panicked (pan a))
set_option maxRecDepth 100000 in
set_option maxHeartbeats 1000000 in
theorem needs_c (g p : Nat) (l t : List UInt8) (a : Addr) (w : World) (hz : Rz w g l p) (hE : Et w a) (hgE : 3 < g) (hl : l.length ≤ 65536) (hp : p ≤ l.length) (ht : t.length ≤ 10) :
    Calls Tryd.prog 89 #[.pointer (some ⟨g, 0, none⟩), .string (Bt t)] w (NE g p (Ps.mt t (l.drop p)) t.length l a w) := by
  obtain ⟨M, hM⟩ : ∃ M : Nat, Hid (Ps.mt t (l.drop p) = M) := ⟨_, (rfl : _ = _)⟩
  rw [hM.out]
  have eT : Hid ((Bt t).size = t.length) := Bt_size t
  have hts : (Bt t).size ≤ 10 := by rw [eT.out]; exact ht
  go_enter Tryd.func89, Tryd.ntmps89
  go_wp2_with fail
  go_loopw [7] (fun si wx => ∃ i q : Nat, i ≤ t.length ∧ Hid (i ≤ M) ∧ q ≤ l.length ∧ Hid (q = p + i) ∧ si = .int .i64 (i : Int) ∧ Hid (Rz wx g l q) ∧ Hid (w.grownBy wx (some g)) ∧ Hid (Et wx a)) (fun si _ => t.length - (intOf si).toNat)
  case atStart => exact ⟨0, p, Nat.zero_le _, Nat.zero_le _, hp, (rfl : _ = _), rfl, hz, World.grownBy.refl _ _, hE⟩
  case round =>
    obtain ⟨i, q, hi, hiM, hql, hq, rfl, hzr, hg, hEr⟩ := hrel
    by_cases hlt : i < (Bt t).size
    · have hlt' : (i : Int) < ((Bt t).size : Int) := by omega
      have hy := bt_get t i hlt
      by_cases hlb : l[q]? = some ((Bt t)[i])
      · have hst : Hid (i + 1 ≤ M) := by
          show _ ≤ _
          rw [← hM.out]
          exact mt_step hy (by rw [← hq.out]; exact hlb) (by rw [hM.out]; exact hiM.out)
        have hi1 : i + 1 ≤ t.length := by rw [← eT.out]; omega
        have hq1 : q + 1 ≤ l.length := (List.getElem?_eq_some_iff.1 hlb).1
        have hq2 : Hid (q + 1 = p + (i + 1)) := by show _ = _; rw [hq.out]; omega
        have hc : Hid (Calls Tryd.prog 87 #[.pointer (some ⟨g, 0, none⟩), .int .u8 (((Bt t)[i]).toNat : Int)] wr fun e w' => e = .returned (.bool true) ∧ Rz w' g l (q + 1) ∧ wr.grownBy w' (some g)) := takes_t g q l _ wr hzr.out hl hlb
        clear hy hlb
        go_wp2_with fail
        refine hc.out.mono ?_
        rintro e w1 ⟨rfl, hz1, hg1⟩
        have hz1H : Hid (Rz w1 g l (q + 1)) := hz1
        have hg1H : Hid (w.grownBy w1 (some g)) := gb_tr hg.out hg1
        have hE1H : Hid (Et w1 a) := hEr.out.kept hg1 hgE
        clear hz1 hg1 hc
        go_wp2_with fail
        go_roundw
        case rel => exact ⟨i + 1, q + 1, hi1, hst, hq1, hq2, by go_num, hz1H, hg1H, hE1H⟩
        case measure => simp [intOf]; omega
      · have hst : Hid (M = i) := by
          show _ = _
          rw [← hM.out]
          refine mt_stop (fun b hb => ?_) (by rw [hM.out]; exact hiM.out)
          rw [← hq.out]
          rw [hy] at hb
          intro e
          exact hlb (by rw [e]; exact hb.symm)
        have hc : Hid (Calls Tryd.prog 87 #[.pointer (some ⟨g, 0, none⟩), .int .u8 (((Bt t)[i]).toNat : Int)] wr fun e w' => e = .returned (.bool false) ∧ Rz w' g l q ∧ wr.grownBy w' (some g)) := takes_f g q l _ wr hzr.out hl hql hlb
        have hne : Hid (M ≠ t.length) := by show _ ≠ _; rw [hst.out, ← eT.out]; omega
        clear hy hlb
        go_wp2_with fail
        refine hc.out.mono ?_
        rintro e w1 ⟨rfl, hz1, hg1⟩
        have hfin : Hid (NE g p M t.length l a w (.panicked (pan a)) w1) := ⟨by rw [hst.out, ← hq.out]; exact hz1, gb_tr hg.out hg1, fun h => absurd h hne.out, fun _ => rfl⟩
        have hE1H : Hid (Et w1 a) := hEr.out.kept hg1 hgE
        clear hz1 hg1 hc
        go_wp2_with fail
        refine (giveUp_c g a w1 hE1H.out).mono ?_
        rintro e w2 ⟨rfl, rfl⟩
        go_wp2_with fail
        exact ⟨rfl, hfin.out⟩
    · have hlt' : decide ((i : Int) < ((Bt t).size : Int)) = false := decide_eq_false (by omega)
      have hst : Hid (M = t.length) := by
        show _ = _
        have h1 := Ps.mt_le1 t (l.drop p)
        rw [hM.out] at h1
        have h2 := hiM.out
        rw [eT.out] at hlt
        omega
      have hfin : Hid (NE g p M t.length l a w (.returned (.tuple #[])) wr) := by
        have e : p + M = q := by rw [hst.out, hq.out]; rw [eT.out] at hlt; omega
        exact ⟨by rw [e]; exact hzr.out, hg.out, fun _ => rfl, fun h => absurd hst.out h⟩
      go_wp2_with fail
      go_end0
      exact hfin.out
end Go.Proofs.YtoaccmblaifnmaaDoor
/-
  The program's reader: number.
-/
namespace Go.Proofs.YtoaccmblaifnmaaDoor
open Flo Go.RowKit Tr
open Lib (decDigits)
/-- what is told of a number that must begin here -/
def UE (g p M V : Nat) (l : List UInt8) (a : Addr) (w : World) (e : Ending) (w' : World) : Prop := Rz w' g l (p + M) ∧ w.grownBy w' (some g) ∧ (M ≠ 0 → e = .returned (.int .i64 (V : Int))) ∧ (M = 0 → e = .panicked (pan a))
theorem pw_low {k n : Nat} (h : 10 ^ k ≤ 10 * n) (hk : ¬ k < 6) : 100000 ≤ n := by
  have h1 : 10 ^ 6 ≤ 10 ^ k := Nat.pow_le_pow_right (by decide) (by omega)
  have h2 : (10 : Nat) ^ 6 = 1000000 := by decide
  omega
theorem pw_high {k n : Nat} (h : n < 10 ^ k) (hk : k < 6) : n < 100000 := by
  have h1 : 10 ^ k ≤ 10 ^ 5 := Nat.pow_le_pow_right (by decide) (by omega)
  have h2 : (10 : Nat) ^ 5 = 100000 := by decide
  omega
theorem pwq_pos {k n : Nat} (h : k = 0 ∨ 10 ^ k ≤ 10 * n) (hk : 0 < k) : 0 < n := by
  rcases h with h | h
  · omega
  · have : 0 < 10 ^ k := Nat.pow_pos (by decide)
    omega
theorem pwq_step {k n X : Nat} (h : k = 0 ∨ 10 ^ k ≤ 10 * n) (h0 : k ≠ 0 ∨ X ≠ 0) : 10 ^ (k + 1) ≤ 10 * (10 * n + X) := by
  rw [Nat.pow_succ]
  rcases h with h | h
  · subst h; simp; omega
  · omega
theorem pw_step2 {k n X : Nat} (h : n < 10 ^ k) (hX : X ≤ 9) : 10 * n + X < 10 ^ (k + 1) := by
  rw [Nat.pow_succ]; omega
set_option maxRecDepth 100000 in
set_option maxHeartbeats 1500000 in
theorem number_c (g p : Nat) (l : List UInt8) (a : Addr) (w : World) (hz : Rz w g l p) (hE : Et w a) (hgE : 3 < g) (hl : l.length ≤ 65536) (hp : p ≤ l.length) :
    Calls Tryd.prog 88 #[.pointer (some ⟨g, 0, none⟩)] w (UE g p (Ps.dc (l.drop p)) (Ps.nv (l.drop p)) l a w) := by
  obtain ⟨M, hM⟩ : ∃ M : Nat, Hid (Ps.dc (l.drop p) = M) := ⟨_, (rfl : _ = _)⟩
  obtain ⟨V, hV⟩ : ∃ V : Nat, Hid (Ps.nv (l.drop p) = V) := ⟨_, (rfl : _ = _)⟩
  rw [hM.out, hV.out]
  go_enter Tryd.func88, Tryd.ntmps88
  go_wp2_with fail
  go_loopw [3] (fun sn wx => ∃ k q n : Nat, k ≤ 6 ∧ n ≤ 999999 ∧ Hid (k ≤ M) ∧ q ≤ l.length ∧ Hid (q = p + k) ∧ Hid (n = Dg.dv ((l.drop p).take k)) ∧ Hid (n < 10 ^ k) ∧ Hid (k = 0 ∨ 10 ^ k ≤ 10 * n) ∧ sn = .int .i64 (n : Int) ∧ Hid (Rz wx g l q) ∧ Hid (w.grownBy wx (some g)) ∧ Hid (Et wx a)) (fun sn _ => 1000000 - (intOf sn).toNat)
  case atStart => exact ⟨0, p, 0, Nat.zero_le _, Nat.zero_le _, Nat.zero_le _, hp, (rfl : _ = _), (rfl : _ = _), (by show 0 < 1; decide), Or.inl rfl, rfl, hz, World.grownBy.refl _ _, hE⟩
  case round =>
    obtain ⟨k, q, n, hk, hn, hkM, hql, hq, hnv, hhi, hlo, rfl, hzr, hg, hEr⟩ := hrel
    have eL : Hid ((Bt l).size = l.length) := Bt_size l
    have h64 : (Bt l).size ≤ 65536 := by rw [eL.out]; exact hl
    have d0 : ∀ D, (wr.drewN D).cell? ⟨g, 0, none⟩ = some (.string (Bt l)) := fun D => (hzr.out.dr D).c0
    have d1 : ∀ D, (wr.drewN D).cell? ⟨g, 1, none⟩ = some (.int .i64 (q : Int)) := fun D => (hzr.out.dr D).c1
    have d2 : ∀ D, (wr.drewN D).frozen? ⟨g, 1, none⟩ = false := fun D => (hzr.out.dr D).fz 1
    have c0 := hzr.out.c0
    have c1 := hzr.out.c1
    have fin : (k = 6 ∨ ∀ b, (l.drop p)[k]? = some b → Dg.isD b = false) → Hid (n = V) ∧ Hid (M = k) ∧ Hid (∀ D, Rz (wr.drewN D) g l (p + M)) := fun h => by
      have e1 : M = k := by rw [← hM.out]; exact Ps.dc_stop (by rw [hM.out]; exact hkM.out) h
      refine ⟨?_, e1, fun D => ?_⟩
      · show n = V
        rw [hnv.out, ← hV.out]; unfold Ps.nv; rw [hM.out, e1]
      · rw [e1, ← hq.out]; exact hzr.out.dr D
    have hfin2 : Hid (∀ D, w.grownBy (wr.drewN D) (some g)) := fun D => gb_dr hg.out D
    have hE2 : Hid (∀ D, Et (wr.drewN D) a) := fun D => hEr.out.dr D
    -- what stands at the end: nought, or more
    have ends : Hid (n = V) → Hid (M = k) → Hid (∀ D, Rz (wr.drewN D) g l (p + M)) → Hid ((0 < k → ∀ D, UE g p M V l a w (.returned (.int .i64 (n : Int))) (wr.drewN D)) ∧ (k = 0 → ∀ D, UE g p M V l a w (.panicked (pan a)) (wr.drewN D))) := fun f1 f3 f2 =>
      ⟨fun h D => ⟨f2.out D, hfin2.out D, fun _ => by rw [f1.out], fun h0 => by have := f3.out; omega⟩, fun h D => ⟨f2.out D, hfin2.out D, fun h0 => by have := f3.out; omega, fun _ => rfl⟩⟩
    have hn0 : Hid (0 < k → ((n : Int) == 0) = false) := fun h => beq_eq_false_iff_ne.2 (by have := pwq_pos hlo.out h; omega)
    have hn1 : Hid (k = 0 → n = 0) := fun h => by have h1 := hhi.out; rw [h] at h1; simpa using h1
    by_cases hk6 : k < 6
    · have hk6' : (n : Int) < 100000 := by have := pw_high hhi.out hk6; omega
      by_cases hlq : q < (Bt l).size
      · have hlq' : (q : Int) < ((Bt l).size : Int) := by omega
        have hx := bt_get l q hlq
        have hx2 : Hid ((l.drop p)[k]? = some ((Bt l)[q])) := by show _ = _; rw [List.getElem?_drop, ← hq.out]; exact hx
        clear hx
        obtain ⟨Y, hY⟩ : ∃ Y : Int, ((Bt l)[q].toNat : Int) - 48 = Y := ⟨_, rfl⟩
        have hb8 : (Bt l)[q].toNat < 256 := (Bt l)[q].toNat_lt
        have wr0 : IntKind.i64.wrap ((Bt l)[q].toNat : Int) = ((Bt l)[q].toNat : Int) := by rw [IntKind.wrap_i64]; omega
        by_cases x1 : Y < 0 ∨ 9 < Y
        · obtain ⟨f1, f3, f2⟩ := fin (.inr fun b h => by rw [hx2.out] at h; cases h; simp [Dg.isD]; omega)
          have E := ends f1 f3 f2
          clear fin ends f1 f2 f3 hx2
          by_cases x2 : Y < 0
          · have x2' : decide (Y < 0) = true := decide_eq_true x2
            by_cases h0 : k = 0
            · have e0 := hn1.out h0
              subst e0
              clear hn0 hn1 hnv hhi hlo
              go_wp2_with fail
              go_quiet (fail)
              go_wp2_with fail
              go_quiet (fail)
              go_wp2_with fail
              refine (giveUp_c g a _ (hE2.out _)).mono ?_
              rintro e w2 ⟨rfl, rfl⟩
              go_wp2_with fail
              exact ⟨rfl, E.out.2 h0 _⟩
            · have hn0' := hn0.out (by omega)
              have hk0 : Hid (0 < k) := by show 0 < k; omega
              clear hn0 hn1 hnv hhi hlo h0
              go_wp2_with fail
              go_quiet (fail)
              go_wp2_with fail
              go_quiet (fail)
              go_wp2_with fail
              go_ret
              exact E.out.1 hk0.out _
          · have x2' : decide (Y < 0) = false := decide_eq_false x2
            have x3 : Y > 9 := by omega
            have x3' : decide (Y > 9) = true := decide_eq_true x3
            clear x1
            by_cases h0 : k = 0
            · have e0 := hn1.out h0
              subst e0
              clear hn0 hn1 hnv hhi hlo
              go_wp2_with fail
              go_quiet (fail)
              go_wp2_with fail
              go_quiet (fail)
              go_wp2_with fail
              refine (giveUp_c g a _ (hE2.out _)).mono ?_
              rintro e w2 ⟨rfl, rfl⟩
              go_wp2_with fail
              exact ⟨rfl, E.out.2 h0 _⟩
            · have hn0' := hn0.out (by omega)
              have hk0 : Hid (0 < k) := by show 0 < k; omega
              clear hn0 hn1 hnv hhi hlo h0
              go_wp2_with fail
              go_quiet (fail)
              go_wp2_with fail
              go_quiet (fail)
              go_wp2_with fail
              go_ret
              exact E.out.1 hk0.out _
        · have y1 : decide (Y < 0) = false := decide_eq_false (by omega)
          have y2 : decide (Y > 9) = false := decide_eq_false (by omega)
          have y3 : ¬ Y < 0 := by omega
          have y4 : ¬ Y > 9 := by omega
          have hdig : Hid (Dg.isD ((Bt l)[q]) = true) := by show _ = _; simp [Dg.isD]; omega
          clear fin x1
          by_cases hz0 : k = 0 ∧ Y = 0
          · obtain ⟨h0, e48⟩ := hz0
            have e0 := hn1.out h0
            subst e0
            have hx3 : Hid ((l.drop p)[0]? = some 48) := by
              show _ = _
              rw [← h0, hx2.out]
              exact congrArg some (UInt8.toNat_inj.1 (show _ = 48 by omega))
            have e1 : M = 0 := by rw [← hM.out]; exact Ps.dc_nought hx3.out
            have e2 : V = 0 := by rw [← hV.out]; unfold Ps.nv; rw [hM.out, e1]; rfl
            have E := ends (show 0 = V by rw [e2]) (show M = k by rw [e1, h0]) (fun D => by rw [e1]; have := hzr.out.dr D; rw [hq.out, h0] at this; exact this)
            have e48' : (Y == 0) = true := by rw [e48]; rfl
            clear hx2 hx3 hdig hn0 hn1 hnv hhi hlo ends e1 e2
            go_wp2_with fail
            go_quiet (fail)
            go_wp2_with fail
            go_quiet (fail)
            go_wp2_with fail
            refine (giveUp_c g a _ (hE2.out _)).mono ?_
            rintro e w2 ⟨rfl, rfl⟩
            go_wp2_with fail
            exact ⟨rfl, E.out.2 h0 _⟩
          · have hst : Hid (k + 1 ≤ M) := by
              show _ ≤ _
              rw [← hM.out]
              refine Ps.dc_more (by rw [hM.out]; exact hkM.out) hk6 hx2.out hdig.out ?_
              by_cases h0 : k = 0
              · right
                intro e
                refine hz0 ⟨h0, ?_⟩
                rw [e] at hY
                exact hY.symm
              · exact .inl h0
            obtain ⟨X, hX, hX9, hXI⟩ : ∃ X : Nat, Hid (X = (Bt l)[q].toNat - 48) ∧ X ≤ 9 ∧ Y = (X : Int) := ⟨(Bt l)[q].toNat - 48, (rfl : _ = _), by omega, by omega⟩
            have hnv2 : Hid (10 * n + X = Dg.dv ((l.drop p).take (k + 1))) := by
              show _ = _
              rw [Dg.take_snoc hx2.out, Dg.dv_snoc, ← hnv.out, ← hX.out]; omega
            have hX0 : k ≠ 0 ∨ X ≠ 0 := by
              by_cases h0 : k = 0
              · exact .inr (fun e => hz0 ⟨h0, by omega⟩)
              · exact .inl h0
            have hlo2 : Hid (k + 1 = 0 ∨ 10 ^ (k + 1) ≤ 10 * (10 * n + X)) := Or.inr (pwq_step hlo.out hX0)
            have hhi2 : Hid (10 * n + X < 10 ^ (k + 1)) := pw_step2 hhi.out hX9
            have hn2 : 10 * n + X ≤ 999999 := by
              have h1 := hhi2.out
              have h3 : 10 ^ (k + 1) ≤ 10 ^ 6 := Nat.pow_le_pow_right (by decide) (by omega)
              have h4 : (10 : Nat) ^ 6 = 1000000 := by decide
              omega
            have hgr : Hid (n < 10 * n + X) := by
              show _ < _
              by_cases h0 : k = 0
              · omega
              · have := pwq_pos hlo.out (by omega); omega
            have hq1 : q + 1 ≤ l.length := by rw [← eL.out]; omega
            have hq2 : Hid (q + 1 = p + (k + 1)) := by show _ = _; rw [hq.out]; omega
            have hz1 : Hid (∀ D, Rz ((wr.drewN D).setCell ⟨g, 1, none⟩ (.int .i64 ((q : Int) + 1))) g l (q + 1)) := fun D => (hzr.out.dr D).set (q + 1)
            have hg0 : ∀ D, wr.grownBy ((wr.drewN D).setCell ⟨g, 1, none⟩ (.int .i64 ((q : Int) + 1))) (some g) := fun D => Lib.Hx.grownBy_set (gb_dr (Lib.Hx.grownBy_refl _ _) D) ⟨g, 1, none⟩ rfl _
            have hg1 : Hid (∀ D, w.grownBy ((wr.drewN D).setCell ⟨g, 1, none⟩ (.int .i64 ((q : Int) + 1))) (some g)) := fun D => gb_tr hg.out (hg0 D)
            have hE1 : Hid (∀ D, Et ((wr.drewN D).setCell ⟨g, 1, none⟩ (.int .i64 ((q : Int) + 1))) a) := fun D => hEr.out.kept (hg0 D) hgE
            obtain ⟨N, hN, hNI⟩ : ∃ N : Nat, Hid (N = 10 * n + X) ∧ 10 * (n : Int) + Y = (N : Int) := ⟨10 * n + X, (rfl : _ = _), by omega⟩
            have wr3 : IntKind.i64.wrap (10 * (n : Int)) = 10 * (n : Int) := by rw [IntKind.wrap_i64]; omega
            have hN6 : N ≤ 999999 := by rw [hN.out]; exact hn2
            have wr4 : IntKind.i64.wrap (N : Int) = (N : Int) := by rw [IntKind.wrap_i64]; omega
            have hmes : Hid (1000000 - N < 1000000 - n) := by show _ < _; rw [hN.out]; have := hgr.out; omega
            have hnvN : Hid (N = Dg.dv ((l.drop p).take (k + 1))) := by show _ = _; rw [hN.out]; exact hnv2.out
            have hhiN : Hid (N < 10 ^ (k + 1)) := by show _ < _; rw [hN.out]; exact hhi2.out
            have hloN : Hid (k + 1 = 0 ∨ 10 ^ (k + 1) ≤ 10 * N) := by show _ ∨ _; rw [hN.out]; exact hlo2.out
            clear hx2 hX hXI hX9 hX0 hlo2 hhi2 hnv2 hn2 hgr hg0 ends hdig hnv hhi hlo
            by_cases h0 : k = 0
            · have e0 := hn1.out h0
              subst e0
              have hY0 : (Y == 0) = false := beq_eq_false_iff_ne.2 (fun e => hz0 ⟨h0, e⟩)
              have hYN : Hid (Y = (N : Int)) := by show _ = _; omega
              have hYt : Hid (Y.toNat = N) := by show _ = _; omega
              clear hn0 hn1 hz0
              go_wp2_with fail
              go_quiet (fail)
              go_wp2_with fail
              go_quiet (fail)
              go_wp2_with fail
              go_roundw
              case rel => exact ⟨k + 1, q + 1, N, by omega, hN6, hst, hq1, hq2, hnvN, hhiN, hloN, by rw [hYN.out], hz1.out _, hg1.out _, hE1.out _⟩
              case measure => simpa [intOf, hYt.out] using hmes.out
            · have hn0' := hn0.out (by omega)
              clear hn0 hn1 hz0
              go_wp2_with fail
              go_quiet (fail)
              go_wp2_with fail
              go_quiet (fail)
              go_wp2_with fail
              go_roundw
              case rel => exact ⟨k + 1, q + 1, N, by omega, hN6, hst, hq1, hq2, hnvN, hhiN, hloN, rfl, hz1.out _, hg1.out _, hE1.out _⟩
              case measure => simpa [intOf] using hmes.out
      · have hlq' : decide ((q : Int) < ((Bt l).size : Int)) = false := decide_eq_false (by omega)
        obtain ⟨f1, f3, f2⟩ := fin (.inr fun b h => by rw [List.getElem?_drop, ← hq.out, List.getElem?_eq_none (by rw [← eL.out]; omega)] at h; cases h)
        have E := ends f1 f3 f2
        clear fin ends f1 f2 f3
        by_cases h0 : k = 0
        · have e0 := hn1.out h0
          subst e0
          clear hn0 hn1 hnv hhi hlo
          go_wp2_with fail
          go_quiet (fail)
          go_wp2_with fail
          refine (giveUp_c g a _ (hE2.out _)).mono ?_
          rintro e w2 ⟨rfl, rfl⟩
          go_wp2_with fail
          exact ⟨rfl, E.out.2 h0 _⟩
        · have hn0' := hn0.out (by omega)
          have hk0 : Hid (0 < k) := by show 0 < k; omega
          clear hn0 hn1 hnv hhi hlo h0
          go_wp2_with fail
          go_quiet (fail)
          go_wp2_with fail
          go_ret
          exact E.out.1 hk0.out _
    · have hk6' : decide ((n : Int) < 100000) = false := decide_eq_false (by
        rcases hlo.out with h | h
        · omega
        · have := pw_low h hk6; omega)
      obtain ⟨f1, f3, f2⟩ := fin (.inl (by omega))
      have E := ends f1 f3 f2
      have hn0' := hn0.out (by omega)
      have hk0 : Hid (0 < k) := by show 0 < k; omega
      clear fin ends f1 f2 f3 hn0 hn1 hnv hhi hlo
      go_wp2_with fail
      go_region
      all_goals
        go_wp2_with fail
        go_ret
        exact E.out.1 hk0.out _
end Go.Proofs.YtoaccmblaifnmaaDoor
/-
  Orders in memory of one's own: their lists lie at the beginning of blocks of a set.
-/
namespace Go.Proofs.YtoaccmblaifnmaaDoor
open Flo Go.RowKit Tr
/-- a Kid in a block of one's own -/
structure Kon (S : Nat → Prop) (w : World) (ao : Option Addr) (i : Nat) (t : Tr) (b : Nat) (c : Array Value) (s : Value) : Prop where
  at0 : ao = some ⟨b, 0, none⟩
  set : S b
  blk : w.heap[b]? = some (.cells c 24 (0, 0))
  d0 : c[i * 3]? = some (.int .i64 t.k)
  d1 : c[i * 3 + 1]? = some (.int .i64 t.n)
  d2 : c[i * 3 + 2]? = some s
def OsF (S : Nat → Prop) (w : World) : Nat → Tr → Value → Prop
  | 0, _, _ => False
  | m + 1, ⟨k, n, ks⟩, v => ∃ ao cap, v = .agg #[.int .i64 k, .int .i64 n, .slice ao ks.length cap] ∧ (ks.length ≤ 9223372036854775807 ∧ fit k n) ∧ ∀ i (h : i < ks.length), ∃ b c s, Kon S w ao i ks[i] b c s ∧ OsF S w m ks[i] (.agg #[.int .i64 (ks[i]).k, .int .i64 (ks[i]).n, s])
def Os (S : Nat → Prop) (w : World) (t : Tr) (v : Value) : Prop := OsF S w (pt t) t v
theorem osf_pt {S : Nat → Prop} {w : World} (t : Tr) : ∀ m m' v, OsF S w m t v → pt t ≤ m' → OsF S w m' t v := by
  refine Tr.ind (P := fun t => ∀ m m' v, OsF S w m t v → pt t ≤ m' → OsF S w m' t v) (fun k n ks ih m m' v h hm => ?_) t
  cases m with
  | zero => exact h.elim
  | succ m =>
    cases m' with
    | zero => have := pt_pos ⟨k, n, ks⟩; omega
    | succ m' =>
      obtain ⟨ao, cap, rfl, hl, hc⟩ := h
      refine ⟨ao, cap, rfl, hl, fun i hi => ?_⟩
      obtain ⟨b, c, s, K, ho⟩ := hc i hi
      have := pt_kid (k := k) (n := n) (List.getElem_mem hi)
      exact ⟨b, c, s, K, ih _ (List.getElem_mem hi) m m' _ ho (by omega)⟩
theorem os_eq (S : Nat → Prop) (w : World) (k n : Int) (ks : List Tr) (v : Value) : Os S w ⟨k, n, ks⟩ v ↔ ∃ ao cap, v = .agg #[.int .i64 k, .int .i64 n, .slice ao ks.length cap] ∧ (ks.length ≤ 9223372036854775807 ∧ fit k n) ∧ ∀ i (h : i < ks.length), ∃ b c s, Kon S w ao i ks[i] b c s ∧ Os S w ks[i] (.agg #[.int .i64 (ks[i]).k, .int .i64 (ks[i]).n, s]) := by
  constructor
  · intro h
    obtain ⟨ao, cap, rfl, hl, hc⟩ := osf_pt _ _ (pt ⟨k, n, ks⟩ + 1) _ h (Nat.le_succ _)
    refine ⟨ao, cap, rfl, hl, fun i hi => ?_⟩
    obtain ⟨b, c, s, K, ho⟩ := hc i hi
    exact ⟨b, c, s, K, osf_pt _ _ _ _ ho (Nat.le_refl _)⟩
  · rintro ⟨ao, cap, rfl, hl, hc⟩
    have h : OsF S w (pt ⟨k, n, ks⟩ + 1) ⟨k, n, ks⟩ (.agg #[.int .i64 k, .int .i64 n, .slice ao ks.length cap]) := by
      refine ⟨ao, cap, rfl, hl, fun i hi => ?_⟩
      obtain ⟨b, c, s, K, ho⟩ := hc i hi
      exact ⟨b, c, s, K, osf_pt _ _ _ _ ho (Nat.le_of_lt (pt_kid (List.getElem_mem hi)))⟩
    exact osf_pt _ _ _ _ h (Nat.le_refl _)
theorem blk_lt {w : World} {b : Nat} {o : Obj} (h : w.heap[b]? = some o) : b < w.heap.size := (Array.getElem?_eq_some_iff.1 h).1
theorem Os.keep {S S' : Nat → Prop} {w w' : World} (hs : ∀ b, S b → S' b) (hk : ∀ b, S b → b < w.heap.size → w'.heap[b]? = w.heap[b]?) (t : Tr) : ∀ v, Os S w t v → Os S' w' t v := by
  refine Tr.ind (P := fun t => ∀ v, Os S w t v → Os S' w' t v) (fun k n ks ih v h => ?_) t
  rw [os_eq] at h ⊢
  obtain ⟨ao, cap, rfl, hl, hc⟩ := h
  refine ⟨ao, cap, rfl, hl, fun i hi => ?_⟩
  obtain ⟨b, c, s, K, ho⟩ := hc i hi
  exact ⟨b, c, s, ⟨K.at0, hs _ K.set, (hk _ K.set (blk_lt K.blk)).trans K.blk, K.d0, K.d1, K.d2⟩, ih _ (List.getElem_mem hi) _ ho⟩
theorem Os.od {S : Nat → Prop} {w : World} (t : Tr) : ∀ v, Os S w t v → Od w t v := by
  refine Tr.ind (P := fun t => ∀ v, Os S w t v → Od w t v) (fun k n ks ih v h => ?_) t
  rw [os_eq] at h
  rw [od_eq]
  obtain ⟨ao, cap, rfl, hl, hc⟩ := h
  refine ⟨ao, cap, rfl, hl, fun i hi => ?_⟩
  obtain ⟨b, c, s, K, ho⟩ := hc i hi
  have e : ∀ j, w.cell? ⟨b, j, none⟩ = c[j]? := fun j => Joins.cell_of_block K.blk j
  refine ⟨b, 0, s, K.at0, blk_lt K.blk, ?_, ?_, ?_, ih _ (List.getElem_mem hi) _ ho⟩
  · rw [Nat.zero_add, e]; exact K.d0
  · rw [Nat.zero_add, e]; exact K.d1
  · rw [Nat.zero_add, e]; exact K.d2
/-- new blocks -/
def nw (w : World) : Nat → Prop := fun b => w.heap.size ≤ b
theorem Os.gb {S : Nat → Prop} {w w' : World} {g : Nat} {t : Tr} {v : Value} (h : Os S w t v) (hg : w.grownBy w' (some g)) (hS : ∀ b, S b → b ≠ g) : Os S w' t v :=
  Os.keep (fun _ hb => hb) (fun b hb hl => hg.block b hl (fun e => hS b hb (Option.some.inj e))) t v h
theorem Os.bel {S : Nat → Prop} {w w' : World} {t : Tr} {v : Value} (h : Os S w t v) (hg : Below w.heap.size w w') : Os S w' t v :=
  Os.keep (fun _ hb => hb) (fun b _ hl => hg.block b hl) t v h
theorem Os.leaf {S : Nat → Prop} {w : World} {k n : Int} {a : Option Addr} {c : Nat} (h : fit k n) : Os S w ⟨k, n, []⟩ (.agg #[.int .i64 k, .int .i64 n, .slice a 0 c]) := by
  rw [os_eq]
  exact ⟨a, c, rfl, ⟨by simp, h⟩, fun i hi => absurd hi (Nat.not_lt_zero _)⟩
theorem Os.shape {S : Nat → Prop} {w : World} {t : Tr} {v : Value} (h : Os S w t v) : ∃ a c, v = .agg #[.int .i64 t.k, .int .i64 t.n, .slice a t.ks.length c] := by
  obtain ⟨k, n, ks⟩ := t
  rw [os_eq] at h
  obtain ⟨ao, cap, rfl, _⟩ := h
  exact ⟨ao, cap, rfl⟩
theorem Os.fits {S : Nat → Prop} {w : World} {t : Tr} {v : Value} (h : Os S w t v) : fit t.k t.n := by
  obtain ⟨k, n, ks⟩ := t
  rw [os_eq] at h
  obtain ⟨ao, cap, rfl, hl, _⟩ := h
  exact hl.2
/-- an order of two, its list in block b -/
theorem Os.two {S : Nat → Prop} {w : World} {k n : Int} {x y : Tr} {sx sy : Value} {b : Nat} {cap : Nat} (hf : fit k n) (hb : S b)
    (hx : Os S w x (.agg #[.int .i64 x.k, .int .i64 x.n, sx])) (hy : Os S w y (.agg #[.int .i64 y.k, .int .i64 y.n, sy]))
    (hc : w.heap[b]? = some (.cells #[.int .i64 x.k, .int .i64 x.n, sx, .int .i64 y.k, .int .i64 y.n, sy] 24 (0, 0))) : Os S w ⟨k, n, [x, y]⟩ (.agg #[.int .i64 k, .int .i64 n, .slice (some ⟨b, 0, none⟩) 2 cap]) := by
  rw [os_eq]
  refine ⟨_, cap, rfl, ⟨by simp, hf⟩, fun i hi => ?_⟩
  match i, hi with
  | 0, _ => exact ⟨b, _, sx, ⟨rfl, hb, hc, rfl, rfl, rfl⟩, hx⟩
  | 1, _ => exact ⟨b, _, sy, ⟨rfl, hb, hc, rfl, rfl, rfl⟩, hy⟩
theorem Os.one {S : Nat → Prop} {w : World} {k n : Int} {x : Tr} {sx : Value} {b : Nat} {cap : Nat} (hf : fit k n) (hb : S b)
    (hx : Os S w x (.agg #[.int .i64 x.k, .int .i64 x.n, sx]))
    (hc : w.heap[b]? = some (.cells #[.int .i64 x.k, .int .i64 x.n, sx] 24 (0, 0))) : Os S w ⟨k, n, [x]⟩ (.agg #[.int .i64 k, .int .i64 n, .slice (some ⟨b, 0, none⟩) 1 cap]) := by
  rw [os_eq]
  refine ⟨_, cap, rfl, ⟨by simp, hf⟩, fun i hi => ?_⟩
  match i, hi with
  | 0, _ => exact ⟨b, _, sx, ⟨rfl, hb, hc, rfl, rfl, rfl⟩, hx⟩
end Go.Proofs.YtoaccmblaifnmaaDoor
