/-
  Contracts of package direct: Slide, At, where nothing is refused.
-/
import Derived.Test.YtehaokdjdhejlaaDoorDp1
namespace Go.Proofs.YtehaokdjdhejlaaDoor
open Flo Go.RowKit

set_option maxHeartbeats 2000000 in
theorem slideOk_n (b off cap g1 g2 v1 v2 : Nat) (zs : List (Nat × Nat)) (n : Nat) (w : World) (hbw : b < w.heap.size) (hc : Hid (∀ i, i < n → w.cell? ⟨b, off + i, none⟩ = some (.complex .f64 (zs.getD i (0, 0)).1 (zs.getD i (0, 0)).2))) (hn : 0 < n) (hn2 : n ≤ 1024) :
    Calls Tryd.prog 19 #[.slice (some ⟨b, off, none⟩) n cap, .complex .f64 g1 g2, .complex .f64 v1 v2] w fun e w' => ∃ g us, e = .returned (.tuple #[.slice (some ⟨g, 0, none⟩) n n, .nilIface]) ∧ w.heap.size ≤ g ∧ Row w' g g n (sld n (g1, g2) (v1, v2) fun j => zs.getD j (0, 0)) n us ∧ Below w.heap.size w w' := by
  obtain ⟨F, hF⟩ : ∃ F : Nat → Nat × Nat, Hid (F = sld n (g1, g2) (v1, v2) fun j => zs.getD j (0, 0)) := ⟨_, (rfl : _ = _)⟩
  rw [← hF.out]
  go_enter Tryd.func19, Tryd.ntmps19
  go_wp2_with fail
  refine (tableOk_c n w hn hn2).mono ?_
  rintro e w1 ⟨G, rfl, hG, T, B⟩
  have hT : Hid (Tab w1 G n) := T
  have hB : Hid (Below w.heap.size w w1) := B
  clear T B
  obtain ⟨w2, hmk, hrow, hb2⟩ := makeCx w1 n (by omega)
  have R0 : Hid (Row w2 w1.heap.size w1.heap.size n F 0 (List.replicate n (0, 0))) := Row.made F hrow.out
  have hg3 : (0 : Int) ≤ (n : Int) := by omega
  clear hrow
  go_wp2_with fail
  clear hmk
  have hadd := @run_cadd Tryd.prog
  have hsub := @run_csub Tryd.prog
  go_loopw [12, 27] (fun _ si wx => ∃ (i : Nat) (us : List (Nat × Nat)), i ≤ n ∧ si = .int .i64 (i : Int) ∧ Hid (Row wx w1.heap.size w1.heap.size n F i us) ∧ Hid (Below w1.heap.size w1 wx)) (fun _ si _ => n - (intOf si).toNat)
  case atStart => exact ⟨0, _, Nat.zero_le _, rfl, R0, hb2⟩
  case round =>
    clear R0 hb2
    obtain ⟨i, us, hi, rfl, R, hb⟩ := hrel
    by_cases hlt : i < n
    · have hlt' : (i : Int) < (n : Int) := by omega
      have hci : wr.cell? ⟨b, off + i, none⟩ = some (.complex .f64 (zs.getD i (0, 0)).1 (zs.getD i (0, 0)).2) := ((below_tr hB.out hb.out).cell (p := ⟨b, off + i, none⟩) hbw).trans (hc.out i hlt)
      obtain ⟨t, ht, ht1⟩ : ∃ t : Nat, Hid (t = (n - i) % n) ∧ ((n : Int) - (i : Int)).tmod (n : Int) = (t : Int) := by
        refine ⟨(n - i) % n, (rfl : _ = _), ?_⟩
        rw [Int.tmod_eq_emod_of_nonneg (by omega), Int.natCast_emod]
        congr 1
        omega
      have htn : t < n := by rw [ht.out]; exact Nat.mod_lt _ hn
      have lkF : Hid (F i = tws n t (adc (sbc (zs.getD i (0, 0)) (g1, g2)) (v1, v2))) := by show _ = _; rw [hF.out, ht.out]; rfl
      generalize zs.getD i (0, 0) = zi at *
      obtain ⟨a, c⟩ := zi
      go_wp2_with fail
      have ht2 : -(i : Int) % (n : Int) = (t : Int) := by
        rw [← ht1, Int.tmod_eq_emod_of_nonneg (by omega), show (n : Int) - (i : Int) = -(i : Int) + (n : Int) by omega, Int.add_emod_right]
      have hT2 : Hid (∀ D, Tab (wr.drewN D) G n) := fun D => (hT.out.below hb.out).drewN D
      have hc3 : ∀ D, (wr.drewN D).cell? ⟨w1.heap.size, i, none⟩ = some (.complex .f64 (us.getD i (0, 0)).1 (us.getD i (0, 0)).2) := fun _ => R.out.cell hlt
      have hf3 : ∀ D, (wr.drewN D).frozen? ⟨w1.heap.size, i, none⟩ = false := fun _ => R.out.frozen i
      have R3 : Hid (∀ D x y, x < 18446744073709551616 → y < 18446744073709551616 → Lk (x, y) (F i) → Row ((wr.drewN D).setCell ⟨w1.heap.size, i, none⟩ (.complex .f64 x y)) w1.heap.size w1.heap.size n F (i + 1) (us.set i (x, y))) := fun D x y lx ly lk => (R.out.keep (below_drewN (Below.refl _ _) D)).put lx ly hlt lk
      have B3 : Hid (∀ D x y, Below w1.heap.size w1 ((wr.drewN D).setCell ⟨w1.heap.size, i, none⟩ (.complex .f64 x y))) := fun D x y => (below_drewN hb.out D).setCell (p := ⟨w1.heap.size, i, none⟩) (Nat.le_refl _) _
      have hsc := store_cx
      clear R hb
      go_region_with (go_at_call 37; refine (twisted_c _ _ t G n n _ (fr_lt ..) (fr_lt ..) htn (hT2.out _)).mono ?_; rintro e w3 ⟨x, y, d, rfl, rfl, lx, ly, lk⟩; have lk2 : Hid (Lk (x, y) (F i)) := (by show Lk _ _; rw [lkF.out]; exact lk.trans (Lk.tws ⟨by rw [bt_fr, co_fr_left]; exact (bt_co ..).symm, by rw [bt_fr, co_fr_left]; exact (bt_co ..).symm⟩)); clear lk)
      all_goals
        go_wp2
        go_roundw
        case rel => exact ⟨i + 1, _, by omega, by go_num, R3.out _ _ _ lx ly lk2.out, B3.out _ _ _⟩
        case measure => simp [intOf]; omega
    · have hlt' : decide ((i : Int) < (n : Int)) = false := decide_eq_false (by omega)
      have ei : i = n := by omega
      subst ei
      have hs : Hid (w.heap.size ≤ w1.heap.size) := hB.out.size
      have hBB : Hid (Below w.heap.size w wr) := below_tr hB.out hb.out
      clear hadd hsub
      go_wp2
      go_ret2
      exact ⟨_, us, rfl, hs.out, R.out, hBB.out⟩
theorem slideOk_c (v : Value) (g1 g2 v1 v2 : Nat) (zs : List (Nat × Nat)) (n : Nat) (w : World) (hx : RdC w v zs) (hz : zs.length = n) (hn : 0 < n) (hn2 : n ≤ 1024) :
    Calls Tryd.prog 19 #[v, .complex .f64 g1 g2, .complex .f64 v1 v2] w fun e w' => ∃ g us, e = .returned (.tuple #[.slice (some ⟨g, 0, none⟩) n n, .nilIface]) ∧ w.heap.size ≤ g ∧ Row w' g g n (sld n (g1, g2) (v1, v2) fun j => zs.getD j (0, 0)) n us ∧ Below w.heap.size w w' := by
  obtain ⟨ao, cap, rfl, h2⟩ := hx
  obtain ⟨b, off, rfl, hb, h3⟩ := h2 (fun e => by rw [e] at hz; simp at hz; omega)
  rw [hz]
  exact slideOk_n b off cap g1 g2 v1 v2 zs n w hb (by rw [← hz]; exact h3) hn hn2
end Go.Proofs.YtehaokdjdhejlaaDoor
