/-
  SumsWhole, walked.
-/
import Derived.Test.YtmfnjmgdindlaaaLw9
import Derived.Test.YtmfnjmgdindlaaaWn9
import Derived.Deep.DeepCutAuto
namespace Go.Proofs.Ytmfnjmgdindlaaa
open Flo Go.RowKit Ieee
/-- a list of whole numbers that came in, each place by itself -/
def InW (w : World) (ao : Option Addr) (n : Nat) : Prop := ∀ i, i < n → ∃ b off z, ao = some ⟨b, off, none⟩ ∧ b < w.heap.size ∧ w.cell? ⟨b, off + i, none⟩ = some (.int .i64 z)
set_option maxRecDepth 100000 in
set_option maxHeartbeats 4000000 in
theorem sumsWhole_w (ao : Option Addr) (n cap : Nat) (w : World) (hr : n * 8 ≤ 140737488351232) (hc : Hid (InW w ao n)) :
    Calls Try.prog 5 #[.slice ao n cap] w fun e w' => e = .returned (.bool true) ∧ Below w.heap.size w w' := by
  obtain ⟨i0, hi0, hz0, hz1, hz2⟩ := info_parts info24
  go_enter Try.func5, Try.ntmps5
  go_wp2_with fail
  refine (lives_c _).mono ?_
  rintro e w1 ⟨rfl, b1⟩
  have b1H : Hid (Below w.heap.size w w1) := b1
  have hc1 : Hid (InW w1 ao n) := fun i hi => by
    obtain ⟨b, off, z, e, hb, hcell⟩ := hc.out i hi
    exact ⟨b, off, z, e, Nat.lt_of_lt_of_le hb b1.size, (b1.cell (p := ⟨b, off + i, none⟩) hb).trans hcell⟩
  clear b1 hc
  go_wp2_with fail
  go_loopw [4, 5, 6, 16] (fun sl ss sz si wx => ∃ (i : Nat) (ps : List Int), i ≤ n ∧ si = .int .i64 (i : Int) ∧ ss = .int .i64 ps.sum ∧ sz = .int .i64 ((Wn.ns ps : Nat) : Int) ∧ Hid (Wn.ns ps ≤ 9007199254740992) ∧ Hid (ps.length = i) ∧ Hid (wx.ownsRow w1.heap.size 26 1 sl i (fl (ps.map Wn.cv))) ∧ Hid (sl.ownBlock ≠ none) ∧ Hid (Below w1.heap.size w1 wx)) (fun _ _ _ si _ => n - (RowKit.intOf si).toNat)
  case atStart => exact ⟨0, [], Nat.zero_le _, rfl, rfl, rfl, by show 0 ≤ _; omega, rfl, World.ownsRow_made w1 #[] 0 (Nat.le_refl _) (by decide) rfl, (fun h => by cases h), (Below.refl _ w1).alloc (Nat.le_refl _) _⟩
  case round =>
    obtain ⟨i, ps, hin, rfl, rfl, rfl, hns, hpl, O, hne, Bw⟩ := hrel
    have hsum : Hid (ps.sum.natAbs ≤ Wn.ns ps) := Wn.sum_le ps
    by_cases hlt : i < n
    · have hlt' : (i : Int) < (n : Int) := by omega
      obtain ⟨b, off, p, rfl, hb, hcell⟩ := hc1.out i hlt
      have cz := (Bw.out.cell (p := ⟨b, off + i, none⟩) hb).trans hcell
      clear hcell
      obtain ⟨bb, hbb⟩ : ∃ bb : Bool, Hid (decide (p < -1125899906842624 ∨ p > 1125899906842624 ∨ ((Wn.ns ps : Nat) : Int) > 9007199254740992 - (p.natAbs : Int)) = bb) := ⟨_, (rfl : _ = _)⟩
      obtain ⟨N, hN⟩ : ∃ N : Nat, Hid (Wn.ns ps = N) := ⟨_, (rfl : _ = _)⟩
      rw [hN.out] at hbb ⊢
      have hNl : Hid (N ≤ 9007199254740992) := by rw [← hN.out]; exact hns.out
      go_upto_region 9 with fail
      clear cz
      go_cut [34] (fun s wx => s = .bool bb ∧ wx = wr)
      case first =>
        by_cases a1 : p < -1125899906842624
        · have hv : Hid (true = bb) := (by rw [← hbb.out]; exact (decide_eq_true (.inl a1)).symm : true = bb)
          clear hbb
          go_wp2_with fail
          go_meet
          case rel => exact ⟨congrArg Value.bool hv.out, rfl⟩
        · have a1' : decide (p < -1125899906842624) = false := decide_eq_false a1
          by_cases a2 : p > 1125899906842624
          · have hv : Hid (true = bb) := (by rw [← hbb.out]; exact (decide_eq_true (.inr (.inl a2))).symm : true = bb)
            clear hbb a1
            go_wp2_with fail
            go_meet
            case rel => exact ⟨congrArg Value.bool hv.out, rfl⟩
          · have a2' : decide (p > 1125899906842624) = false := decide_eq_false a2
            have hv : Hid (decide ((N : Int) > 9007199254740992 - (p.natAbs : Int)) = bb) := by
              rw [← hbb.out]
              exact decide_eq_decide.2 ⟨fun h => .inr (.inr h), fun h => by rcases h with h | h | h <;> first | omega | exact h⟩
            clear hbb
            go_wp2_with fail
            all_goals (go_meet; exact ⟨congrArg Value.bool (by rw [← hv.out]; exact decide_eq_decide.2 (by omega)), rfl⟩)
      case rest =>
        obtain ⟨rfl, hwc⟩ := hcut
        rw [hwc]
        clear hwc
        cases bb
        · have hq := of_decide_eq_false hbb.out
          have a1 : -1125899906842624 ≤ p := by omega
          have a2 : p ≤ 1125899906842624 := by omega
          have a3 : Hid (N + p.natAbs ≤ 9007199254740992) := (by omega : N + p.natAbs ≤ 9007199254740992)
          have hsN : Hid (ps.sum.natAbs ≤ N) := by rw [← hN.out]; exact hsum.out
          have hs1 : Hid ((ps ++ [p]).sum = ps.sum + p) := by show _ = _; rw [Wn.sum_append]; simp
          have hn1 : Hid (Wn.ns (ps ++ [p]) = N + p.natAbs) := by show _ = _; rw [Wn.ns_snoc, hN.out]
          have hfl : Hid (fl ((ps ++ [p]).map Wn.cv) = fl (ps.map Wn.cv) ++ [.float .f64 (floatOfInt .f64 p)]) := by show _ = _; unfold fl; rw [List.map_append, List.map_append]; rfl
          generalize hA : ps.sum = A at hsN hs1 ⊢
          have hAH : Hid (ps.sum = A) := hA
          have hA1 : -9007199254740992 ≤ A := by have h1 := hsN.out; have h2 := hNl.out; omega
          have hA2 : A ≤ 9007199254740992 := by have h1 := hsN.out; have h2 := hNl.out; omega
          have hN2 : (N : Int) ≤ 9007199254740992 := by have h2 := hNl.out; omega
          have O' := O.out
          have hs0 := Bw.out.size
          clear hq hbb hA hsum hns hNl hsN
          go_wp2_with (at_builtin; refine wpList_append_own_at _ rfl _ _ 24 rfl w1.heap.size 26 i0 (.float .f64 0) 1 8 Try.underlying24 hi0 hz0 hz1 hz2 rfl (by decide) _ _ _ rfl (O'.alloc _) ⟨wr.heap.size, 0, none⟩ 1 1 [.float .f64 (floatOfInt .f64 p)] rfl rfl (cell_one_new9 _ _ _) (by simp [Value.oneCell']) (by unfold maxLen; omega) (by omega) (by simp; omega) ?_)
          intro v' w5 hown' hgrow hnil hat
          have O5 : Hid (w5.ownsRow w1.heap.size 26 1 v' (i + 1) (fl ((ps ++ [p]).map Wn.cv))) := by rw [hfl.out]; exact hown'
          have B5 : Hid (Below w1.heap.size w1 w5) := (Bw.out.alloc hs0 _).grown hgrow (by simp; omega) (fun k' hk' => (O'.lt k' hk').1)
          have n5 : Hid (v'.ownBlock ≠ none) := fun h => by
            rcases hat with e | e
            · exact hne.out (e ▸ h)
            · rw [e] at h; cases h
          have l5 : Hid ((ps ++ [p]).length = i + 1) := by show _ = _; rw [List.length_append, hpl.out]; rfl
          have m5 : Hid (Wn.ns (ps ++ [p]) ≤ 9007199254740992) := by show _ ≤ _; rw [hn1.out]; exact a3.out
          have hp0 : Hid (N + p.natAbs ≤ 9007199254740992) := a3
          clear hown' hgrow hnil hat O' O Bw hne hpl hfl
          go_wp2_with fail
          all_goals
            go_roundw
            case rel => exact ⟨i + 1, ps ++ [p], by omega, by go_num, by rw [hs1.out], by rw [hn1.out]; exact congrArg _ (by omega), m5, l5, O5, n5, B5⟩
            case measure => simp [RowKit.intOf]; omega
        · clear hbb hNl
          have hNH := hN.out
          subst hNH
          clear hN
          have hxl : ∀ x ∈ ps.map Wn.cv, x < 18446744073709551616 := fun x hx => (Wn.fin_W ps hns.out x hx).1
          have hlen : (ps.map Wn.cv).length = i := by rw [List.length_map, hpl.out]
          have hFv : Fv wr u4 (ps.map Wn.cv) := fv_own (by rw [hlen]; exact O.out) hxl (by rw [hlen]; omega)
          have hS : Hid (Sums wr u4 (ps.map Wn.cv) i) := hFv.sums (by rw [hlen]; exact Nat.le_refl _)
          have wS : Ari.W (floatOfInt .f64 ps.sum) ps.sum := Wn.cv_W (Nat.le_trans hsum.out hns.out)
          have w1L := Wn.lf_W ps hns.out
          have w1P := Wn.pf_W i ps hns.out
          have w1K := Wn.kp_W ps hns.out
          have w1E := Wn.ex_W ps hns.out
          have q1 : (FloatKind.f64.format.order (lf (ps.map Wn.cv)) (floatOfInt .f64 ps.sum) == some .eq) = true := (Ari.W_eq w1L wS).trans (decide_eq_true rfl)
          have q2 : (FloatKind.f64.format.order (pf i (ps.map Wn.cv)) (floatOfInt .f64 ps.sum) == some .eq) = true := (Ari.W_eq w1P wS).trans (decide_eq_true rfl)
          have q3 : (FloatKind.f64.format.order (kp (ps.map Wn.cv)) (floatOfInt .f64 ps.sum) == some .eq) = true := (Ari.W_eq w1K wS).trans (decide_eq_true rfl)
          have q4 : (FloatKind.f64.format.order (Sm.exB (ps.map Wn.cv)) (floatOfInt .f64 ps.sum) == some .eq) = true := (Ari.W_eq w1E wS).trans (decide_eq_true rfl)
          have n1 : Hid (nanB (lf (ps.map Wn.cv)) = false) := Ari.nan_fin w1L.1
          have n2 : Hid (nanB (pf i (ps.map Wn.cv)) = false) := Ari.nan_fin w1P.1
          have n3 : Hid (nanB (kp (ps.map Wn.cv)) = false) := Ari.nan_fin w1K.1
          have n4 : Hid (nanB (Sm.exB (ps.map Wn.cv)) = false) := Ari.nan_fin w1E.1
          have hcL : Hid (∀ W, Below wr.heap.size wr W → Calls Try.prog 9 #[u4] W (RFb W (lf (ps.map Wn.cv)))) := hS.out.cL
          have hcP : Hid (∀ W, Below wr.heap.size wr W → Calls Try.prog 10 #[u4] W (RFb W (pf i (ps.map Wn.cv)))) := hS.out.cP
          have hcK : Hid (∀ W, Below wr.heap.size wr W → Calls Try.prog 11 #[u4] W (RFb W (kp (ps.map Wn.cv)))) := hS.out.cK
          have hcE : Hid (∀ W, Below wr.heap.size wr W → Calls Try.prog 12 #[u4] W (RFb W (Sm.exB (ps.map Wn.cv)))) := hS.out.cE
          generalize lf (ps.map Wn.cv) = X1 at q1 n1 hcL
          generalize pf i (ps.map Wn.cv) = X2 at q2 n2 hcP
          generalize kp (ps.map Wn.cv) = X3 at q3 n3 hcK
          generalize Sm.exB (ps.map Wn.cv) = X4 at q4 n4 hcE
          clear hxl hlen hFv hS wS w1L w1P w1K w1E O hne hpl hns hsum
          go_wp2_with fail
          generalize floatOfInt .f64 ps.sum = Y at *
          refine (hcL.out _ (Below.refl _ _)).mono ?_
          rintro e y1 ⟨x1, rfl, hx1, hb1, k1⟩
          obtain rfl := eq_bt hb1 n1.out
          have k1H : Hid (Below wr.heap.size wr y1) := k1
          clear hx1 hb1 k1 hcL n1
          go_wp2_with fail
          refine (hcP.out _ k1H.out).mono ?_
          rintro e y2 ⟨x2, rfl, hx2, hb2, k2⟩
          obtain rfl := eq_bt hb2 n2.out
          have k2H : Hid (Below wr.heap.size wr y2) := k1H.out.trans (k2.mono k1H.out.size)
          clear hx2 hb2 k2 hcP n2
          go_wp2_with fail
          refine (hcK.out _ k2H.out).mono ?_
          rintro e y3 ⟨x3, rfl, hx3, hb3, k3⟩
          obtain rfl := eq_bt hb3 n3.out
          have k3H : Hid (Below wr.heap.size wr y3) := k2H.out.trans (k3.mono k2H.out.size)
          clear hx3 hb3 k3 hcK n3
          go_wp2_with fail
          refine (hcE.out _ k3H.out).mono ?_
          rintro e y4 ⟨x4, rfl, hx4, hb4, k4⟩
          obtain rfl := eq_bt hb4 n4.out
          have k4H : Hid (Below wr.heap.size wr y4) := k3H.out.trans (k4.mono k3H.out.size)
          clear hx4 hb4 k4 hcE n4
          go_wp2_with fail
          go_ret
          have z1 := Bw.out.trans (k4H.out.mono Bw.out.size)
          exact ⟨rfl, b1H.out.trans (z1.mono b1H.out.size)⟩
    · have hlt' : decide ((i : Int) < (n : Int)) = false := decide_eq_false (by omega)
      clear hc1
      have hxl : ∀ x ∈ ps.map Wn.cv, x < 18446744073709551616 := fun x hx => (Wn.fin_W ps hns.out x hx).1
      have hlen : (ps.map Wn.cv).length = i := by rw [List.length_map, hpl.out]
      have hFv : Fv wr u4 (ps.map Wn.cv) := fv_own (by rw [hlen]; exact O.out) hxl (by rw [hlen]; omega)
      have hS : Hid (Sums wr u4 (ps.map Wn.cv) i) := hFv.sums (by rw [hlen]; exact Nat.le_refl _)
      have wS : Ari.W (floatOfInt .f64 ps.sum) ps.sum := Wn.cv_W (Nat.le_trans hsum.out hns.out)
      have w1L := Wn.lf_W ps hns.out
      have w1P := Wn.pf_W i ps hns.out
      have w1K := Wn.kp_W ps hns.out
      have w1E := Wn.ex_W ps hns.out
      have q1 : (FloatKind.f64.format.order (lf (ps.map Wn.cv)) (floatOfInt .f64 ps.sum) == some .eq) = true := (Ari.W_eq w1L wS).trans (decide_eq_true rfl)
      have q2 : (FloatKind.f64.format.order (pf i (ps.map Wn.cv)) (floatOfInt .f64 ps.sum) == some .eq) = true := (Ari.W_eq w1P wS).trans (decide_eq_true rfl)
      have q3 : (FloatKind.f64.format.order (kp (ps.map Wn.cv)) (floatOfInt .f64 ps.sum) == some .eq) = true := (Ari.W_eq w1K wS).trans (decide_eq_true rfl)
      have q4 : (FloatKind.f64.format.order (Sm.exB (ps.map Wn.cv)) (floatOfInt .f64 ps.sum) == some .eq) = true := (Ari.W_eq w1E wS).trans (decide_eq_true rfl)
      have n1 : Hid (nanB (lf (ps.map Wn.cv)) = false) := Ari.nan_fin w1L.1
      have n2 : Hid (nanB (pf i (ps.map Wn.cv)) = false) := Ari.nan_fin w1P.1
      have n3 : Hid (nanB (kp (ps.map Wn.cv)) = false) := Ari.nan_fin w1K.1
      have n4 : Hid (nanB (Sm.exB (ps.map Wn.cv)) = false) := Ari.nan_fin w1E.1
      have hcL : Hid (∀ W, Below wr.heap.size wr W → Calls Try.prog 9 #[u4] W (RFb W (lf (ps.map Wn.cv)))) := hS.out.cL
      have hcP : Hid (∀ W, Below wr.heap.size wr W → Calls Try.prog 10 #[u4] W (RFb W (pf i (ps.map Wn.cv)))) := hS.out.cP
      have hcK : Hid (∀ W, Below wr.heap.size wr W → Calls Try.prog 11 #[u4] W (RFb W (kp (ps.map Wn.cv)))) := hS.out.cK
      have hcE : Hid (∀ W, Below wr.heap.size wr W → Calls Try.prog 12 #[u4] W (RFb W (Sm.exB (ps.map Wn.cv)))) := hS.out.cE
      generalize lf (ps.map Wn.cv) = X1 at q1 n1 hcL
      generalize pf i (ps.map Wn.cv) = X2 at q2 n2 hcP
      generalize kp (ps.map Wn.cv) = X3 at q3 n3 hcK
      generalize Sm.exB (ps.map Wn.cv) = X4 at q4 n4 hcE
      clear hxl hlen hFv hS wS w1L w1P w1K w1E O hne hpl hns hsum
      go_wp2_with fail
      generalize floatOfInt .f64 ps.sum = Y at *
      refine (hcL.out _ (Below.refl _ _)).mono ?_
      rintro e y1 ⟨x1, rfl, hx1, hb1, k1⟩
      obtain rfl := eq_bt hb1 n1.out
      have k1H : Hid (Below wr.heap.size wr y1) := k1
      clear hx1 hb1 k1 hcL n1
      go_wp2_with fail
      refine (hcP.out _ k1H.out).mono ?_
      rintro e y2 ⟨x2, rfl, hx2, hb2, k2⟩
      obtain rfl := eq_bt hb2 n2.out
      have k2H : Hid (Below wr.heap.size wr y2) := k1H.out.trans (k2.mono k1H.out.size)
      clear hx2 hb2 k2 hcP n2
      go_wp2_with fail
      refine (hcK.out _ k2H.out).mono ?_
      rintro e y3 ⟨x3, rfl, hx3, hb3, k3⟩
      obtain rfl := eq_bt hb3 n3.out
      have k3H : Hid (Below wr.heap.size wr y3) := k2H.out.trans (k3.mono k2H.out.size)
      clear hx3 hb3 k3 hcK n3
      go_wp2_with fail
      refine (hcE.out _ k3H.out).mono ?_
      rintro e y4 ⟨x4, rfl, hx4, hb4, k4⟩
      obtain rfl := eq_bt hb4 n4.out
      have k4H : Hid (Below wr.heap.size wr y4) := k3H.out.trans (k4.mono k3H.out.size)
      clear hx4 hb4 k4 hcE n4
      go_wp2_with fail
      go_ret
      have z1 := Bw.out.trans (k4H.out.mono Bw.out.size)
      exact ⟨rfl, b1H.out.trans (z1.mono b1H.out.size)⟩
end Go.Proofs.Ytmfnjmgdindlaaa
