/-
  Contracts of package direct: Inverse, Slide, At, where nothing is refused.
-/
import Derived.Test.YtehaokdjdhejlaaDoorDp2
namespace Go.Proofs.YtehaokdjdhejlaaDoor
open Flo Go.RowKit

set_option maxHeartbeats 2000000 in
theorem inverseOk_n (b off cap : Nat) (zs : List (Nat × Nat)) (n : Nat) (w : World) (hbw : b < w.heap.size) (hc : Hid (∀ i, i < n → w.cell? ⟨b, off + i, none⟩ = some (.complex .f64 (zs.getD i (0, 0)).1 (zs.getD i (0, 0)).2))) (hl : Hid (Lim zs)) (hz : Hid (zs.length = n)) (hn : 0 < n) (hn2 : n ≤ 1024) :
    Calls Tryd.prog 17 #[.slice (some ⟨b, off, none⟩) n cap] w fun e w' => ∃ g us, e = .returned (.tuple #[.slice (some ⟨g, 0, none⟩) n n, .nilIface]) ∧ w.heap.size ≤ g ∧ Row w' g g n (fun k => ivk n k fun j => zs.getD j (0, 0)) n us ∧ Below w.heap.size w w' := by
  obtain ⟨H, hH⟩ : ∃ H : Nat → Nat × Nat, Hid (H = fun k => ivk n k fun j => zs.getD j (0, 0)) := ⟨_, (rfl : _ = _)⟩
  rw [← hH.out]
  go_enter Tryd.func17, Tryd.ntmps17
  go_wp2_with fail
  refine (tableOk_c n w hn hn2).mono ?_
  rintro e w1 ⟨G, rfl, hG, T, B⟩
  have hT : Hid (Tab w1 G n) := T
  have hB : Hid (Below w.heap.size w w1) := B
  clear T B
  obtain ⟨w2, hmk, hrow, hb2⟩ := makeCx w1 n (by omega)
  obtain ⟨F, hF⟩ : ∃ F : Nat → Nat × Nat, Hid (F = fun k => cjp (zs.getD k (0, 0))) := ⟨_, (rfl : _ = _)⟩
  have R0 : Hid (Row w2 w1.heap.size w1.heap.size n F 0 (List.replicate n (0, 0))) := Row.made F hrow.out
  have hg3 : (0 : Int) ≤ (n : Int) := by omega
  clear hrow
  go_wp2_with fail
  clear hmk
  go_loopw [7, 8, 26] (fun _ _ si wx => ∃ (i : Nat) (us : List (Nat × Nat)), i ≤ n ∧ si = .int .i64 (i : Int) ∧ Hid (Row wx w1.heap.size w1.heap.size n F i us) ∧ Hid (Below w1.heap.size w1 wx)) (fun _ _ si _ => n - (intOf si).toNat)
  case atStart => exact ⟨0, _, Nat.zero_le _, rfl, R0, hb2⟩
  case round =>
    clear R0 hb2
    obtain ⟨i, us, hi, rfl, R, hb⟩ := hrel
    by_cases hlt : i < n
    · have hlt' : (i : Int) < (n : Int) := by omega
      have hci : wr.cell? ⟨b, off + i, none⟩ = some (.complex .f64 (zs.getD i (0, 0)).1 (zs.getD i (0, 0)).2) := ((below_tr hB.out hb.out).cell (p := ⟨b, off + i, none⟩) hbw).trans (hc.out i hlt)
      have hli := hl.out i (by rw [hz.out]; exact hlt)
      have lkF : Hid (Lk ((zs.getD i (0, 0)).1, Ari.ng (zs.getD i (0, 0)).2) (F i)) := by show Lk _ _; rw [hF.out]; exact Lk.refl _
      generalize zs.getD i (0, 0) = zi at *
      obtain ⟨a, c⟩ := zi
      go_wp2_with fail
      refine (cConj_c a c wr hli.2).mono ?_
      rintro e w3 ⟨rfl, rfl⟩
      have c3 := R.out.cell hlt
      have f2 := R.out.frozen i
      have R3 : Hid (Row (wr.setCell ⟨w1.heap.size, i, none⟩ (.complex .f64 a (Ari.ng c))) w1.heap.size w1.heap.size n F (i + 1) (us.set i (a, Ari.ng c))) := R.out.put hli.1 (Ari.ng_lt hli.2) hlt lkF.out
      have B3 : Hid (Below w1.heap.size w1 (wr.setCell ⟨w1.heap.size, i, none⟩ (.complex .f64 a (Ari.ng c)))) := hb.out.setCell (p := ⟨w1.heap.size, i, none⟩) (Nat.le_refl _) _
      have hsc := store_cx
      clear R hb lkF hci hli
      go_wp2
      go_roundw
      case rel => exact ⟨i + 1, _, by omega, by go_num, R3, B3⟩
      case measure => simp [intOf]; omega
    · have hlt' : decide ((i : Int) < (n : Int)) = false := decide_eq_false (by omega)
      have ei : i = n := by omega
      subst ei
      go_wp2_with fail
      refine (transform_c _ us G i i wr R.out.rd R.out.lim R.out.len hn hn2 (hT.out.below hb.out)).mono ?_
      rintro e w4 ⟨ys, rfl, R4, B4⟩
      have hR4 : Hid (Row w4 wr.heap.size wr.heap.size i (fun k => dsm i k fun j => us.getD j (0, 0)) i ys) := R4
      have hB4 : Hid (Below w.heap.size w w4) := below_tr (below_tr hB.out hb.out) B4
      have hs4 : Hid (w.heap.size ≤ wr.heap.size) := (below_tr hB.out hb.out).size
      clear R4 B4
      have lkH : Hid (∀ k, k < i → Lk (ovp i (cjp (ys.getD k (0, 0)))) (H k)) := by
        show ∀ k, k < i → _
        intro k hk
        rw [hH.out]
        refine Lk.of_eq (Lk.ovp i ?_)
        have h1 := hR4.out.up k hk
        have h2 : Lk (dsm i k fun j => us.getD j (0, 0)) (dsm i k fun j => cjp (zs.getD j (0, 0))) := dsm_lk hn fun j hj => by
          have := R.out.up j hj
          rw [hF.out] at this
          exact this
        have hl0 := hl.out 0 (by rw [hz.out]; exact hn)
        exact (h1.trans h2).cjp (hR4.out.lim k (by rw [hR4.out.len]; exact hk)).2 (dst_lt ⟨hl0.1, Ari.ng_lt hl0.2⟩ _).2
      have S0 : Hid (Row w4 wr.heap.size wr.heap.size i H 0 ys) := ⟨hR4.out.own, hR4.out.len, hR4.out.lim, fun k hk => absurd hk (Nat.not_lt_zero k)⟩
      clear R hR4 hT hc hF hb
      generalize wr.heap.size = g at *
      go_wp2_with fail
      go_loopw [10, 11, 42] (fun _ _ si wx => ∃ (j : Nat) (vs : List (Nat × Nat)), j ≤ i ∧ si = .int .i64 (j : Int) ∧ Hid (Row wx g g i H j vs) ∧ Hid (∀ k, j ≤ k → vs.getD k (0, 0) = ys.getD k (0, 0)) ∧ Hid (Below w.heap.size w wx)) (fun _ _ si _ => i - (intOf si).toNat)
      case atStart => exact ⟨0, _, Nat.zero_le _, rfl, S0, fun _ _ => rfl, hB4⟩
      case round =>
        clear S0 hB4
        obtain ⟨j, vs, hj, rfl, S, hv, hb5⟩ := hrel
        by_cases hltj : j < i
        · have hlt2 : (j : Int) < (i : Int) := by omega
          have c3 := S.out.cell hltj
          have f2 := S.out.frozen j
          have hlj := S.out.lim j (by rw [S.out.len]; exact hltj)
          have hlk := lkH.out j hltj
          rw [← hv.out j (Nat.le_refl _)] at hlk
          have hlkH : Hid (Lk (ovp i (cjp (vs.getD j (0, 0)))) (H j)) := hlk
          clear hlk
          generalize vs.getD j (0, 0) = zi at *
          obtain ⟨a, c⟩ := zi
          go_wp2_with fail
          refine (cConj_c a c wr hlj.2).mono ?_
          rintro e w3 ⟨rfl, rfl⟩
          go_wp2_with fail
          refine (cOver_c a (Ari.ng c) (i : Int) _).mono ?_
          rintro e w3 ⟨x, y, d, rfl, rfl, lx, ly, ex, ey⟩
          have R2 : Hid (Row (wr.drewN d) g g i H j vs) := S.out.keep (below_drewN (Below.refl _ _) d)
          have B2 : Hid (Below w.heap.size w (wr.drewN d)) := below_drewN hb5.out d
          have lk2 : Lk (x, y) (H j) := Lk.trans ⟨by rw [ex]; exact (bt_co ..).symm, by rw [ey]; exact (bt_co ..).symm⟩ hlkH.out
          have c4 : (wr.drewN d).cell? ⟨g, j, none⟩ = some (.complex .f64 a c) := c3
          have f4 : (wr.drewN d).frozen? ⟨g, j, none⟩ = false := f2
          clear ex ey S hb5 hlkH c3 f2 hlj
          generalize wr.drewN d = wd at *
          have R3 : Hid (Row (wd.setCell ⟨g, j, none⟩ (.complex .f64 x y)) g g i H (j + 1) (vs.set j (x, y))) := R2.out.put lx ly hltj lk2
          have B3 : Hid (Below w.heap.size w (wd.setCell ⟨g, j, none⟩ (.complex .f64 x y))) := B2.out.setCell (p := ⟨g, j, none⟩) hs4.out _
          have V3 : Hid (∀ k, j + 1 ≤ k → (vs.set j (x, y)).getD k (0, 0) = ys.getD k (0, 0)) := fun k hk => by rw [getD_set_ne _ (by omega)]; exact hv.out k (by omega)
          have hsc := store_cx
          clear R2 B2 lk2 hv
          go_wp2
          go_roundw
          case rel => exact ⟨j + 1, _, by omega, by go_num, R3, V3, B3⟩
          case measure => simp [intOf]; omega
        · have hlt2 : decide ((j : Int) < (i : Int)) = false := decide_eq_false (by omega)
          have ei : j = i := by omega
          subst ei
          go_wp2
          go_ret2
          exact ⟨_, _, rfl, hs4.out, S.out, hb5.out⟩
theorem inverseOk_c (v : Value) (zs : List (Nat × Nat)) (n : Nat) (w : World) (hx : RdC w v zs) (hl : Lim zs) (hz : zs.length = n) (hn : 0 < n) (hn2 : n ≤ 1024) :
    Calls Tryd.prog 17 #[v] w fun e w' => ∃ g us, e = .returned (.tuple #[.slice (some ⟨g, 0, none⟩) n n, .nilIface]) ∧ w.heap.size ≤ g ∧ Row w' g g n (fun k => ivk n k fun j => zs.getD j (0, 0)) n us ∧ Below w.heap.size w w' := by
  obtain ⟨ao, cap, rfl, h2⟩ := hx
  obtain ⟨b, off, rfl, hb, h3⟩ := h2 (fun e => by rw [e] at hz; simp at hz; omega)
  rw [hz]
  exact inverseOk_n b off cap zs n w hb (by rw [← hz]; exact h3) hl hz hn hn2
end Go.Proofs.YtehaokdjdhejlaaDoor
