/-
  Package fly: the butterflies' contracts.
-/
import Derived.Test.YtonfdfmhnamimaaDoorDs0
import Derived.Test.YtonfdfmhnamimaaDoorClx
import Derived.Laws.Rows
import Derived.Laws.Tables
import Derived.Laws.CopyOwn
import Derived.Deep.DeepCutAuto
namespace Go.Proofs.YtonfdfmhnamimaaDoor
open Flo Go.RowKit
/-- a pair that is alike to z, of words -/
def Lw (y z : Nat × Nat) : Prop := y.1 < 18446744073709551616 ∧ y.2 < 18446744073709551616 ∧ Lk y z
def cxv (z : Nat × Nat) : Value := .complex .f64 z.1 z.2
theorem lw_fr (o : BinOp) (a b c d a' b' c' d' : Nat) (w1 w2 : World) (h1 : Lk (a, b) (a', b')) (h2 : Lk (c, d) (c', d')) : Lw (fr o a c w1, fr o b d w2) (co o a' c', co o b' d') :=
  ⟨fr_lt .., fr_lt .., by show bt (fr o a c w1) = bt (co o a' c'); rw [bt_fr, bt_co]; exact co_of h1.1 h2.1, by show bt (fr o b d w2) = bt (co o b' d'); rw [bt_fr, bt_co]; exact co_of h1.2 h2.2⟩
set_option maxHeartbeats 800000 in
theorem flyTwo_c (a b c d : Nat) (w : World) :
    Calls Tryd.prog 9 #[.agg #[.complex .f64 a b, .complex .f64 c d]] w fun e w' => ∃ y0 y1, e = .returned (.agg #[cxv y0, cxv y1]) ∧ Lw y0 (adc (a, b) (c, d)) ∧ Lw y1 (sbc (a, b) (c, d)) ∧ Below w.heap.size w w' := by
  have h1 := @run_cadd Tryd.prog
  have h2 := @run_csub Tryd.prog
  have h3 := store_cx
  go_enter Tryd.func9, Tryd.ntmps9
  go_wp2_with fail
  refine bodyPost_ret (v := .agg #[cxv (fr .add a c _, fr .add b d _), cxv (fr .sub a c _, fr .sub b d _)]) (by simp [results, Tryd.results9, go_sem]; exact ⟨rfl, rfl⟩) rfl ?_
  refine ⟨_, _, rfl, lw_fr .add _ _ _ _ _ _ _ _ _ _ (Lk.refl _) (Lk.refl _), lw_fr .sub _ _ _ _ _ _ _ _ _ _ (Lk.refl _) (Lk.refl _), ?_⟩
  exact ((below_drewN (((Below.refl _ _).alloc (Nat.le_refl _) _).alloc (by simp) _) _).setCell (Nat.le_succ _) _).setCell (Nat.le_succ _) _
/-- times minus i, times i -/
def mic (z : Nat × Nat) : Nat × Nat := (z.2, Ari.ng z.1)
def tic (z : Nat × Nat) : Nat × Nat := (Ari.ng z.2, z.1)
theorem lw_op {o : BinOp} {a b c d : Nat} {z u : Nat × Nat} (w1 w2 : World) (h1 : Lk (a, b) z) (h2 : Lk (c, d) u) : Lw (fr o a c w1, fr o b d w2) (co o z.1 u.1, co o z.2 u.2) :=
  lw_fr o a b c d z.1 z.2 u.1 u.2 w1 w2 h1 h2
theorem lk_mic {a b : Nat} {z : Nat × Nat} (h : Lw (a, b) z) (hz : z.1 < 18446744073709551616 ∧ z.2 < 18446744073709551616) : Lk (b, Ari.ng a) (mic z) := ⟨h.2.2.2, bt_ng_of h.1 hz.1 h.2.2.1⟩
theorem lk_tic {a b : Nat} {z : Nat × Nat} (h : Lw (a, b) z) (hz : z.1 < 18446744073709551616 ∧ z.2 < 18446744073709551616) : Lk (Ari.ng b, a) (tic z) := ⟨bt_ng_of h.2.1 hz.2 h.2.2.2, h.2.2.1⟩
theorem sbc_lt (z u : Nat × Nat) : (sbc z u).1 < 18446744073709551616 ∧ (sbc z u).2 < 18446744073709551616 := ⟨co_lt .., co_lt ..⟩
set_option maxHeartbeats 800000 in
theorem flyFour_c (a1 a2 b1 b2 c1 c2 d1 d2 : Nat) (w : World) :
    Calls Tryd.prog 10 #[.agg #[.complex .f64 a1 a2, .complex .f64 b1 b2, .complex .f64 c1 c2, .complex .f64 d1 d2]] w fun e w' => ∃ y0 y1 y2 y3, e = .returned (.agg #[cxv y0, cxv y1, cxv y2, cxv y3]) ∧ Lw y0 (adc (adc (a1, a2) (c1, c2)) (adc (b1, b2) (d1, d2))) ∧ Lw y1 (adc (sbc (a1, a2) (c1, c2)) (mic (sbc (b1, b2) (d1, d2)))) ∧ Lw y2 (sbc (adc (a1, a2) (c1, c2)) (adc (b1, b2) (d1, d2))) ∧ Lw y3 (adc (sbc (a1, a2) (c1, c2)) (tic (sbc (b1, b2) (d1, d2)))) ∧ Below w.heap.size w w' := by
  have h1 := @run_cadd Tryd.prog
  have h2 := @run_csub Tryd.prog
  have h3 := store_cx
  go_enter Tryd.func10, Tryd.ntmps10
  go_wp2_with fail
  obtain ⟨W, hW⟩ : ∃ W, Hid ((w.alloc (.cells #[.complex .f64 a1 a2, .complex .f64 b1 b2, .complex .f64 c1 c2, .complex .f64 d1 d2] 37)).alloc (.cells #[.complex .f64 0 0, .complex .f64 0 0, .complex .f64 0 0, .complex .f64 0 0] 37) = W) := ⟨_, (rfl : _ = _)⟩
  have r1 : Hid (∀ D, (W.drewN D).heap[w.heap.size]? = some (.cells #[.complex .f64 a1 a2, .complex .f64 b1 b2, .complex .f64 c1 c2, .complex .f64 d1 d2] 37 (0, 0))) := fun D => by rw [← hW.out]; exact heap_alloc2_old _ _ _
  have r2 : Hid (∀ D, (W.drewN D).heap[w.heap.size + 1]? = some (.cells #[.complex .f64 0 0, .complex .f64 0 0, .complex .f64 0 0, .complex .f64 0 0] 37 (0, 0))) := fun D => by rw [← hW.out]; exact heap_alloc2_new _ _ _
  have rB : Hid (Below w.heap.size w W) := by show Below _ _ _; rw [← hW.out]; exact ((Below.refl _ _).alloc (Nat.le_refl _) _).alloc (by simp) _
  have k0 : ∀ D, (W.drewN D).cell? ⟨w.heap.size, 0, none⟩ = some (.complex .f64 a1 a2) := fun D => cell_of_row _ _ _ _ _ _ (r1.out D)
  have k1 : ∀ D, (W.drewN D).cell? ⟨w.heap.size, 1, none⟩ = some (.complex .f64 b1 b2) := fun D => cell_of_row _ _ _ _ _ _ (r1.out D)
  have k2 : ∀ D, (W.drewN D).cell? ⟨w.heap.size, 2, none⟩ = some (.complex .f64 c1 c2) := fun D => cell_of_row _ _ _ _ _ _ (r1.out D)
  have k3 : ∀ D, (W.drewN D).cell? ⟨w.heap.size, 3, none⟩ = some (.complex .f64 d1 d2) := fun D => cell_of_row _ _ _ _ _ _ (r1.out D)
  have k0' := k0 0
  have k1' := k1 0
  have k2' := k2 0
  have k3' := k3 0
  rw [World.drewN_zero] at k0' k1' k2' k3'
  rw [hW.out]
  go_cut [3, 4] (fun sp sq wx => ∃ p1 p2 q1 q2 k, sp = .complex .f64 p1 p2 ∧ sq = .complex .f64 q1 q2 ∧ Hid (Lw (p1, p2) (adc (a1, a2) (c1, c2))) ∧ Hid (Lw (q1, q2) (sbc (a1, a2) (c1, c2))) ∧ Hid (wx = W.drewN k))
  case first =>
    go_region
    all_goals (go_wp2_with fail; go_meet; exact ⟨_, _, _, _, _, rfl, rfl, lw_op _ _ (Lk.refl _) (Lk.refl _), lw_op _ _ (Lk.refl _) (Lk.refl _), rfl⟩)
  case rest =>
    obtain ⟨p1, p2, q1, q2, k, rfl, rfl, hp, hq, hw⟩ := hcut
    clear k0' k1' k2' k3'
    have j1 := k1 k
    have j3 := k3 k
    rw [← hw.out] at j1 j3
    have jk : Hid (∀ D, wc.drewN D = W.drewN (k + D)) := fun D => by rw [hw.out, World.drewN_drewN]
    have j1' : ∀ D, (wc.drewN D).cell? ⟨w.heap.size, 1, none⟩ = some (.complex .f64 b1 b2) := fun D => by rw [jk.out]; exact k1 _
    have j3' : ∀ D, (wc.drewN D).cell? ⟨w.heap.size, 3, none⟩ = some (.complex .f64 d1 d2) := fun D => by rw [jk.out]; exact k3 _
    clear k0 k1 k2 k3
    go_wp2_with fail
    go_cut [5, 6] (fun sp sq wx => ∃ s1 s2 u1 u2 k, sp = .complex .f64 s1 s2 ∧ sq = .complex .f64 u1 u2 ∧ Hid (Lw (s1, s2) (adc (b1, b2) (d1, d2))) ∧ Hid (Lw (u1, u2) (sbc (b1, b2) (d1, d2))) ∧ Hid (wx = wc.drewN k))
    case first =>
      go_region
      all_goals (go_wp2_with fail; go_meet; exact ⟨_, _, _, _, _, rfl, rfl, lw_op _ _ (Lk.refl _) (Lk.refl _), lw_op _ _ (Lk.refl _) (Lk.refl _), rfl⟩)
    case rest =>
      obtain ⟨s1, s2, u1, u2, k', rfl, rfl, hs, hu, hw'⟩ := hcut
      clear j1 j3 j1' j3'
      rename World => wd
      have jk' : Hid (∀ D, wd.drewN D = W.drewN (k + (k' + D))) := fun D => by rw [hw'.out, World.drewN_drewN, jk.out]
      have rr : Hid (∀ D, (wd.drewN D).heap[w.heap.size + 1]? = some (.cells #[.complex .f64 0 0, .complex .f64 0 0, .complex .f64 0 0, .complex .f64 0 0] 37 (0, 0))) := fun D => by rw [jk'.out]; exact r2.out _
      have z0 : ∀ D, (wd.drewN D).cell? ⟨w.heap.size + 1, 0, none⟩ = some (.complex .f64 0 0) := fun D => cell_of_row _ _ _ _ _ _ (rr.out D)
      have z1 : ∀ D, (wd.drewN D).cell? ⟨w.heap.size + 1, 1, none⟩ = some (.complex .f64 0 0) := fun D => cell_of_row _ _ _ _ _ _ (rr.out D)
      have z2 : ∀ D, (wd.drewN D).cell? ⟨w.heap.size + 1, 2, none⟩ = some (.complex .f64 0 0) := fun D => cell_of_row _ _ _ _ _ _ (rr.out D)
      have z3 : ∀ D, (wd.drewN D).cell? ⟨w.heap.size + 1, 3, none⟩ = some (.complex .f64 0 0) := fun D => cell_of_row _ _ _ _ _ _ (rr.out D)
      have f0 : ∀ D, (wd.drewN D).frozen? ⟨w.heap.size + 1, 0, none⟩ = false := fun D => frozen_of_row _ _ _ _ _ (rr.out D)
      have f1 : ∀ D, (wd.drewN D).frozen? ⟨w.heap.size + 1, 1, none⟩ = false := fun D => frozen_of_row _ _ _ _ _ (rr.out D)
      have f2 : ∀ D, (wd.drewN D).frozen? ⟨w.heap.size + 1, 2, none⟩ = false := fun D => frozen_of_row _ _ _ _ _ (rr.out D)
      have f3 : ∀ D, (wd.drewN D).frozen? ⟨w.heap.size + 1, 3, none⟩ = false := fun D => frozen_of_row _ _ _ _ _ (rr.out D)
      go_wp2_with fail
      refine (cMinusI_c _ _ _ hu.out.1).mono ?_
      rintro e w1 ⟨rfl, rfl⟩
      go_wp2_with fail
      refine (cTimesI_c _ _ _ hu.out.2.1).mono ?_
      rintro e w1 ⟨rfl, rfl⟩
      go_wp2_with fail
      have hB : Hid (∀ D, Below w.heap.size w (wd.drewN D)) := fun D => by rw [jk'.out]; exact below_drewN rB.out _
      refine bodyPost_ret (v := .agg #[cxv (fr .add p1 s1 _, fr .add p2 s2 _), cxv (fr .add q1 u2 _, fr .add q2 (Ari.ng u1) _), cxv (fr .sub p1 s1 _, fr .sub p2 s2 _), cxv (fr .add q1 (Ari.ng u2) _, fr .add q2 u1 _)]) (by simp [results, Tryd.results10, go_sem, z0, z1, z2, z3]; exact ⟨rfl, rfl, rfl, rfl⟩) rfl ?_
      refine ⟨_, _, _, _, rfl, lw_op _ _ hp.out.2.2 hs.out.2.2, lw_op _ _ hq.out.2.2 (lk_mic hu.out (sbc_lt _ _)), lw_op _ _ hp.out.2.2 hs.out.2.2, lw_op _ _ hq.out.2.2 (lk_tic hu.out (sbc_lt _ _)), ?_⟩
      exact ((((hB.out _).setCell (Nat.le_succ _) _).setCell (Nat.le_succ _) _).setCell (Nat.le_succ _) _).setCell (Nat.le_succ _) _
end Go.Proofs.YtonfdfmhnamimaaDoor
