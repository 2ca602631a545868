/-
  DirectPlays: the whole walk.
-/
import Derived.Test.YtehaokdjdhejlaaDoorLa3
import Derived.Test.YtehaokdjdhejlaaDoorPl0
import Derived.Test.YtehaokdjdhejlaaDoorLaid
import Derived.Test.YtehaokdjdhejlaaDoorApg
import Derived.Deep.DeepCutAuto
namespace Go.Proofs.YtehaokdjdhejlaaDoor
open Flo Go.RowKit
set_option maxHeartbeats 1000000 in
theorem wide_c (ao : Option Addr) (n cap : Nat) (w : World) (hn : n ≤ 8796093022208) :
    Calls Tryd.prog 10 #[.slice ao n cap] w fun e w' => e = .returned (.bool (decide (200 < n ∧ n ≤ 1024))) ∧ w' = w := by
  by_cases h1 : 200 < n
  · have h1' : (n : Int) > 200 := by omega
    by_cases h2 : n ≤ 1024
    · have h2' : (n : Int) ≤ 1024 := by omega
      have hv : Hid (true = decide (200 < n ∧ n ≤ 1024)) := (decide_eq_true ⟨h1, h2⟩).symm
      go_enter Tryd.func10, Tryd.ntmps10
      go_wp2
      go_ret
      exact ⟨ret_bool hv.out, rfl⟩
    · have h2' : decide ((n : Int) ≤ 1024) = false := decide_eq_false (by omega)
      have hv : Hid (false = decide (200 < n ∧ n ≤ 1024)) := (decide_eq_false (fun h => h2 h.2)).symm
      go_enter Tryd.func10, Tryd.ntmps10
      go_wp2
      go_ret
      exact ⟨ret_bool hv.out, rfl⟩
  · have h1' : decide ((n : Int) > 200) = false := decide_eq_false (by omega)
    have hv : Hid (false = decide (200 < n ∧ n ≤ 1024)) := (decide_eq_false (fun h => h1 h.1)).symm
    go_enter Tryd.func10, Tryd.ntmps10
    go_wp2
    go_ret
    exact ⟨ret_bool hv.out, rfl⟩
set_option maxRecDepth 100000 in
set_option maxHeartbeats 8000000 in
theorem directPlays.walk (v : Value) (zs : List Nat) (vg : Value) (gs : List Nat) (vh : Value) (hs : List Nat) (w : World) (al : List Addr) (he : Errs w al) (hin : InU w v zs) (hr : zs.length * 8 ≤ 140737488351232) (hing : InU w vg gs) (hrg : gs.length * 8 ≤ 140737488351232) (hinh : InU w vh hs) (hrh : hs.length * 8 ≤ 140737488351232) :
    Calls Tryd.prog 3 #[v, vg, vh] w fun e w' => e = .returned (.bool true) ∧ Below w.heap.size w w' := by
  obtain ⟨ag, cg, hvg, _⟩ := id hing
  obtain ⟨ah, ch, hvh, _⟩ := id hinh
  subst hvg hvh
  obtain ⟨Lg, hLg⟩ : ∃ L, Hid (gs.length = L) := ⟨_, (rfl : _ = _)⟩
  obtain ⟨Lh, hLh⟩ : ∃ L, Hid (hs.length = L) := ⟨_, (rfl : _ = _)⟩
  rw [hLg.out] at hing hrg ⊢
  rw [hLh.out] at hinh hrh ⊢
  have hinH : Hid (InU w v zs) := hin
  have hingH : Hid (InU w (.slice ag Lg cg) gs) := hing
  have hinhH : Hid (InU w (.slice ah Lh ch) hs) := hinh
  have heH : Hid (Errs w al) := he
  clear hin he hing hinh
  go_enter Tryd.func3, Tryd.ntmps3
  go_wp2_with fail
  refine (lives10_c w).mono ?_
  rintro e w1 ⟨rfl, B1⟩
  have hB1 : Hid (Below w.heap.size w w1) := B1
  clear B1
  go_wp2_with fail
  refine (listOg_c v zs w1 (hinH.out.below hB1.out) hr).mono ?_
  rintro e w2 ⟨vx, rfl, hvx, hx, B2⟩
  have hB2 : Hid (Below w.heap.size w w2) := below_tr hB1.out B2
  obtain ⟨n, hn⟩ : ∃ n, Hid (zs.length / 2 = n) := ⟨_, (rfl : _ = _)⟩
  obtain ⟨xs, hxs⟩ : ∃ xs, Hid (prs zs = xs) := ⟨_, (rfl : _ = _)⟩
  have hxl : Hid (xs.length = n) := by show _ = _; rw [← hxs.out, prs_len, hn.out]
  have hlim : Hid (Lim xs) := by
    show Lim _
    rw [← hxs.out]
    obtain ⟨_, _, _, _, h3⟩ := hinH.out
    exact prs_lim h3
  have hOx : Hid (w2.ownsRow 0 37 1 vx n (cz xs)) := by
    have h := hx
    rw [hn.out, hxs.out] at h
    exact own_base h (Nat.zero_le _)
  have hX : Hid (RdC w2 vx xs) := RdC.of_own (by rw [hxl.out]; exact hOx.out)
  obtain ⟨gx, cx, rfl, hgx⟩ : ∃ gx cx, vx = .slice (some ⟨gx, 0, none⟩) n cx ∧ gx < w2.heap.size := by
    rcases hOx.out.2 with ⟨h, _⟩ | ⟨g, c, cu, h, _, h2, _⟩
    · exact absurd h hvx
    · exact ⟨g, c, h, (Array.getElem?_eq_some_iff.1 h2).1⟩
  have hnb : n ≤ 8796093022000 := by have := hn.out; omega
  clear hx B2 hB1 hvx hinH
  go_wp2_with fail
  refine (wide_c _ n cx w2 (by omega)).mono ?_
  rintro e w2' ⟨rfl, rfl⟩
  cases hwd : decide (200 < n ∧ n ≤ 1024)
  case true =>
    go_wp2_with fail
    go_ret
    exact ⟨rfl, hB2.out⟩
  case false =>
    clear hwd
    go_wp2_with fail
    refine (room_c _ n xs w2' hOx.out (fun h => by cases h) hnb).mono ?_
    rintro e w3 ⟨g, cap, rfl, hO3, B3⟩
    have hRm : Hid (Rm w3 g n xs) := Rm.own hO3 hxl.out
    have hcap : n + 2 ≤ cap := by
      rcases hO3.2 with ⟨h, _⟩ | ⟨g', c', cu, h, _, _, h5, _⟩
      · cases h
      · cases h; exact h5
    have hB3 : Hid (Below w.heap.size w w3) := below_tr hB2.out B3
    have hX3 : Hid (RdC w3 (.slice (some ⟨gx, 0, none⟩) n cx) xs) := hX.out.below B3
    have hgx3 : Hid (gx < w3.heap.size) := Nat.lt_of_lt_of_le hgx B3.size
    clear hO3 B3 hX hB2 hOx hgx
    go_wp2_with fail
    refine (pF_c _ xs n w3 al (heH.out.below hB3.out) (hRm.out.rd cap) hlim.out hxl.out).mono ?_
    rintro e w4 ⟨vy, er, ys, rfl, hEr, G4, B4⟩
    have hErH : Hid (Er al er (lnE n)) := hEr
    have hG4 : Hid (Gro w4 w3.heap.size (lnN n) vy (fun k => dsm n k fun j => xs.getD j (0, 0)) ys) := G4
    have hB4 : Hid (Below w3.heap.size w3 w4) := B4
    clear hEr G4 B4
    go_wp2_with fail
    refine (pF_c _ xs n w4 al (heH.out.below (below_tr hB3.out hB4.out)) ((hRm.out.below hB4.out).rd cap) hlim.out hxl.out).mono ?_
    rintro e w5 ⟨vt, er5, ts, rfl, hEr5, G5, B5⟩
    have hG5 : Hid (Gro w5 w4.heap.size (lnN n) vt (fun k => dsm n k fun j => xs.getD j (0, 0)) ts) := G5
    have hB5 : Hid (Below w4.heap.size w4 w5) := B5
    clear hEr5 G5 B5
    go_wp2_with fail
    refine (rF_c _ xs n w5 (hX3.out.below (below_tr hB4.out hB5.out)) hlim.out hxl.out).mono ?_
    rintro e w6 ⟨vz, us, rfl, G6, B6⟩
    have hG6 : Hid (Gro w6 w5.heap.size (lnN n) vz (fun k => dsm n k fun j => xs.getD j (0, 0)) us) := G6
    have hB6 : Hid (Below w5.heap.size w5 w6) := B6
    clear G6 B6
    have hB36 : Hid (Below w3.heap.size w3 w6) := below_tr (below_tr hB4.out hB5.out) hB6.out
    have hB46 : Hid (Below w4.heap.size w4 w6) := below_tr hB5.out hB6.out
    obtain ⟨N, hN⟩ : ∃ N, Hid (lnN n = N) := ⟨_, (rfl : _ = _)⟩
    have hN2 : N ≤ 1024 := by rw [← hN.out]; exact lnN_le n
    obtain ⟨M, hM⟩ : ∃ M, Hid (lnE n = M) := ⟨_, (rfl : _ = _)⟩
    rw [hN.out] at hG4 hG5 hG6
    rw [hM.out] at hErH
    rw [hM.out]
    go_wp2_with fail
    refine (numE_c hErH.out w6 (heH.out.below (below_tr hB3.out hB36.out))).mono ?_
    rintro e w7 ⟨rfl, B7⟩
    have hB7 : Hid (Below w6.heap.size w6 w7) := B7
    have hMM : ((M : Int) == (M : Int)) = true := beq_self_eq_true _
    clear B7
    have hG47 : Hid (Gro w7 w3.heap.size N vy (fun k => dsm n k fun j => xs.getD j (0, 0)) ys) := hG4.out.keep (below_tr hB46.out hB7.out)
    have hG57 : Hid (Gro w7 w4.heap.size N vt (fun k => dsm n k fun j => xs.getD j (0, 0)) ts) := hG5.out.keep (below_tr hB6.out hB7.out)
    have hG67 : Hid (Gro w7 w5.heap.size N vz (fun k => dsm n k fun j => xs.getD j (0, 0)) us) := hG6.out.keep hB7.out
    have hB37 : Hid (Below w3.heap.size w3 w7) := below_tr hB36.out hB7.out
    go_wp2_with fail
    refine (sameList10_c vy vz ys us w7 hG47.out.rd hG67.out.rd hG47.out.lim hG67.out.lim (hG47.out.alike hG67.out) (by rw [hG47.out.len]; omega)).mono ?_
    rintro e w8 ⟨rfl, d8, rfl⟩
    have hB38 : Hid (Below w3.heap.size w3 (w7.drewN d8)) := below_drewN hB37.out d8
    go_wp2_with fail
    refine (kept_c g n cap _ xs _ (hRm.out.below hB38.out) (hX3.out.below hB38.out) hlim.out hnb hcap).mono ?_
    rintro e w9 ⟨rfl, d9, rfl⟩
    obtain ⟨wa, hwa⟩ : ∃ wa, Hid ((w7.drewN d8).drewN d9 = wa) := ⟨_, (rfl : _ = _)⟩
    have hB3a : Hid (Below w3.heap.size w3 wa) := by rw [← hwa.out]; exact below_drewN hB38.out d9
    have hG4a : Hid (Gro wa w3.heap.size N vy (fun k => dsm n k fun j => xs.getD j (0, 0)) ys) := by rw [← hwa.out]; exact ⟨hG47.out.own, hG47.out.len, hG47.out.lim, hG47.out.up⟩
    have hG5a : Hid (Gro wa w4.heap.size N vt (fun k => dsm n k fun j => xs.getD j (0, 0)) ts) := by rw [← hwa.out]; exact ⟨hG57.out.own, hG57.out.len, hG57.out.lim, hG57.out.up⟩
    have hG6a : Hid (Gro wa w5.heap.size N vz (fun k => dsm n k fun j => xs.getD j (0, 0)) us) := by rw [← hwa.out]; exact ⟨hG67.out.own, hG67.out.len, hG67.out.lim, hG67.out.up⟩
    have hyl : Hid (∀ b, vy.ownBlock = some b → w3.heap.size ≤ b ∧ b < w4.heap.size) := fun b h => hG4.out.own.lt b h
    have hs45 : Hid (w4.heap.size ≤ w5.heap.size) := hB5.out.size
    rw [hwa.out]
    clear hG4 hG5 hG6 hG47 hG57 hG67 hB37 hB38 hB36 hB46 hErH hB4 hB5 hB6 hB7
    obtain ⟨ay, cy, rfl⟩ := owns_slice hG4a.out.own
    obtain ⟨S, hS⟩ : ∃ S : Nat → Prop, Hid (S = fun k => (Value.slice ay N cy).ownBlock = some k) := ⟨_, (rfl : _ = _)⟩
    go_wp2_with fail
    go_loopw [16, 63] (fun _ si wx => ∃ (i : Nat) (qs : List (Nat × Nat)), i ≤ N ∧ si = .int .i64 (i : Int) ∧ Hid (wx.ownsRow w3.heap.size 37 1 (.slice ay N cy) N (cz qs) ∧ qs.length = N) ∧ Hid (Fr S wa wx)) (fun _ si _ => N - (intOf si).toNat)
    case atStart => exact ⟨0, ys, Nat.zero_le _, rfl, ⟨hG4a.out.own, hG4a.out.len⟩, Fr.refl _ _⟩
    case round =>
      obtain ⟨i, qs, hiN, rfl, hO, hF⟩ := hrel
      by_cases hlt : i < N
      · have hlt' : (i : Int) < (N : Int) := by omega
        obtain ⟨gy, rfl⟩ : ∃ gy, ay = some ⟨gy, 0, none⟩ := by
          rcases hO.out.1.2 with ⟨_, h0⟩ | ⟨gy, c, cu, h, _⟩
          · omega
          · cases h; exact ⟨gy, rfl⟩
        have c3 : wr.cell? ⟨gy, i, none⟩ = some (.complex .f64 (qs.getD i (0, 0)).1 (qs.getD i (0, 0)).2) := by
          have := hO.out.1.cellAt i (by omega)
          rw [cz_get qs i (by rw [hO.out.2]; exact hlt)] at this
          simpa using this
        have f3 : wr.frozen? ⟨gy, i, none⟩ = false := by
          have := hO.out.1.frozenAt i
          simpa using this
        have O4 : Hid ((wr.setCell ⟨gy, i, none⟩ (.complex .f64 4617315517961601024 0)).ownsRow w3.heap.size 37 1 (.slice (some ⟨gy, 0, none⟩) N cy) N (cz (qs.set i (4617315517961601024, 0))) ∧ (qs.set i (4617315517961601024, 0)).length = N) := by
          have h1 := (hO.out.1.stored i (.complex .f64 4617315517961601024 0)).1
          rw [cz_set qs i (4617315517961601024, 0)] at h1
          exact ⟨h1, by rw [List.length_set]; exact hO.out.2⟩
        have F4 : Hid (Fr S wa (wr.setCell ⟨gy, i, none⟩ (.complex .f64 4617315517961601024 0))) := hF.out.setCell (p := ⟨gy, i, none⟩) (by rw [hS.out]; rfl) _
        have hsc := store_cx
        clear hO hF
        go_wp2
        go_roundw
        case rel => exact ⟨i + 1, _, by omega, by go_num, O4, F4⟩
        case measure => simp [intOf]; omega
      · have hlt' : decide ((i : Int) < (N : Int)) = false := decide_eq_false (by omega)
        rename World => wb
        have ei : i = N := by omega
        subst ei
        obtain ⟨i0, hi, hz0, hz1, hz2⟩ := info_cx
        have hown : Hid (wb.ownsRow w3.heap.size 37 1 (.slice ay i cy) i (cz qs)) := hO.out.1
        have hsb : w3.heap.size ≤ wb.heap.size := Nat.le_trans hB3a.out.size hF.out.size
        go_wp2_with (at_builtin; refine wpList_append_fg _ rfl _ _ 24 rfl w3.heap.size 37 i0 (.complex .f64 0 0) 1 16 Tryd.underlying24 hi hz0 hz1 hz2 rfl (by decide) _ _ _ rfl (hown.out.alloc _) ⟨wb.heap.size, 0, none⟩ 1 1 [.complex .f64 4618441417868443648 0] rfl rfl (cell_one_new10 _ _ _) (by simp [Value.oneCell']) (by unfold maxLen; omega) (by omega) (by simp; omega) ?_)
        intro v' w8 q1 q2 q3
        have F8 : Hid (Fr S wa w8) := (hF.out.alloc _).grown q2 (fun k h => by rw [hS.out]; exact h)
        obtain ⟨g8, c8, rfl⟩ : ∃ g8 c8, v' = .slice (some ⟨g8, 0, none⟩) (i + 1) c8 := by
          rcases q1.2 with ⟨_, h0⟩ | ⟨gy, c, cu, h, _⟩
          · omega
          · exact ⟨gy, c, h⟩
        have c8' : Hid (w8.cell? ⟨g8, i, none⟩ = some (.complex .f64 4618441417868443648 0)) := by
          have h1 := q1.cellAt i (by omega)
          have hl : (cz qs).length = i := by rw [cz_len]; exact hO.out.2
          rw [show (cz qs ++ [Value.complex .f64 4618441417868443648 0])[i]? = some (.complex .f64 4618441417868443648 0) by rw [List.getElem?_append_right (by omega), hl, Nat.sub_self]; rfl] at h1
          show w8.cell? ⟨g8, i, none⟩ = _
          simpa using h1
        have hSl : Hid (∀ b, S b → w3.heap.size ≤ b ∧ b < w4.heap.size) := by
          show ∀ b, S b → _
          intro b hb
          rw [hS.out] at hb
          exact hyl.out b hb
        have hG58 : Hid (Gro w8 w4.heap.size i vt (fun k => dsm n k fun j => xs.getD j (0, 0)) ts) := ⟨F8.out.owns hG5a.out.own (fun b hb hs => by have := (hG5a.out.own.lt b hb).1; have := hSl.out b hs; omega), hG5a.out.len, hG5a.out.lim, hG5a.out.up⟩
        have hG68 : Hid (Gro w8 w5.heap.size i vz (fun k => dsm n k fun j => xs.getD j (0, 0)) us) := ⟨F8.out.owns hG6a.out.own (fun b hb hs => by have := (hG6a.out.own.lt b hb).1; have := hSl.out b hs; have := hs45.out; omega), hG6a.out.len, hG6a.out.lim, hG6a.out.up⟩
        have hB38 : Hid (Below w3.heap.size w3 w8) := F8.out.below hB3a.out hB3a.out.size (fun k _ hk => (hSl.out k hk).1)
        clear q1 q2 q3 hown hO hF hG5a hG6a hG4a hyl
        go_wp2_with fail
        refine (sameList10_c vt vz ts us w8 hG58.out.rd hG68.out.rd hG58.out.lim hG68.out.lim (hG58.out.alike hG68.out) (by rw [hG58.out.len]; omega)).mono ?_
        rintro e w9 ⟨rfl, d9, rfl⟩
        have c9 : (w8.drewN d9).cell? ⟨g8, i, none⟩ = some (.complex .f64 4618441417868443648 0) := c8'.out
        have hB39 : Hid (Below w3.heap.size w3 (w8.drewN d9)) := below_drewN hB38.out d9
        have o6 : FloatKind.f64.format.order 4618441417868443648 4618441417868443648 = some .eq := by decide +kernel
        have o0 : FloatKind.f64.format.order 0 0 = some .eq := by decide +kernel
        generalize w8.drewN d9 = wc at *
        clear hG58 hG68 hB38 F8 c8'
        go_wp2_with fail
        refine (pI_c _ xs n wc al (heH.out.below (below_tr hB3.out hB39.out)) ((hRm.out.below hB39.out).rd cap) hlim.out hxl.out).mono ?_
        rintro e wd ⟨vi, eri, is, rfl, hEri, Gd, Bd⟩
        have hEriH : Hid (Er al eri (lnE n)) := hEri
        have hGd : Hid (Gro wd wc.heap.size (lnN n) vi (fun k => ivk n k fun j => xs.getD j (0, 0)) is) := Gd
        have hB3d : Hid (Below w3.heap.size w3 wd) := below_tr hB39.out Bd
        clear hEri Gd Bd c9
        go_wp2_with fail
        refine (rI_c _ xs n wd (hX3.out.below hB3d.out) hlim.out hxl.out hnb).mono ?_
        rintro e we ⟨vj, js, rfl, Ge, Be⟩
        have hGde : Hid (Gro we wc.heap.size (lnN n) vi (fun k => ivk n k fun j => xs.getD j (0, 0)) is) := hGd.out.keep Be
        have hGe : Hid (Gro we wd.heap.size (lnN n) vj (fun k => ivk n k fun j => xs.getD j (0, 0)) js) := Ge
        have hB3e : Hid (Below w3.heap.size w3 we) := below_tr hB3d.out Be
        clear Ge Be hGd hB39
        rw [hM.out] at hEriH
        rw [hM.out]
        rw [hN.out] at hGde hGe
        go_wp2_with fail
        refine (numE_c hEriH.out we (heH.out.below (below_tr hB3.out hB3e.out))).mono ?_
        rintro e wf ⟨rfl, Bf⟩
        have hGdf : Hid (Gro wf wc.heap.size i vi (fun k => ivk n k fun j => xs.getD j (0, 0)) is) := hGde.out.keep Bf
        have hGef : Hid (Gro wf wd.heap.size i vj (fun k => ivk n k fun j => xs.getD j (0, 0)) js) := hGe.out.keep Bf
        have hB3f : Hid (Below w3.heap.size w3 wf) := below_tr hB3e.out Bf
        clear Bf hGde hGe hB3e hB3d
        go_wp2_with fail
        refine (sameList10_c vi vj is js wf hGdf.out.rd hGef.out.rd hGdf.out.lim hGef.out.lim (hGdf.out.alike hGef.out) (by rw [hGdf.out.len]; omega)).mono ?_
        rintro e wg ⟨rfl, dg, rfl⟩
        have hB3g : Hid (Below w3.heap.size w3 (wf.drewN dg)) := below_drewN hB3f.out dg
        go_wp2_with fail
        refine (kept_c g n cap _ xs _ (hRm.out.below hB3g.out) (hX3.out.below hB3g.out) hlim.out hnb hcap).mono ?_
        rintro e wh ⟨rfl, dh, rfl⟩
        obtain ⟨wk, hwk⟩ : ∃ wk, Hid ((wf.drewN dg).drewN dh = wk) := ⟨_, (rfl : _ = _)⟩
        have hB3k : Hid (Below w3.heap.size w3 wk) := by rw [← hwk.out]; exact below_drewN hB3g.out dh
        rw [hwk.out]
        clear hGdf hGef hB3g hB3f hEriH hwk
        go_upto_region 25 with fail
        go_cut [119] (fun sb wx => sb = .bool (decide (Lg > 1 ∧ Lh > 1)) ∧ wx = wk)
        case first =>
          by_cases hg : Lg > 1
          · have hg' : (Lg : Int) > 1 := by omega
            by_cases hh : Lh > 1
            · have hh' : (Lh : Int) > 1 := by omega
              have hv : Hid (true = decide (Lg > 1 ∧ Lh > 1)) := (decide_eq_true ⟨hg, hh⟩).symm
              go_wp2_with fail
              go_meet
              case rel => exact ⟨congrArg Value.bool hv.out, rfl⟩
            · have hh' : decide ((Lh : Int) > 1) = false := decide_eq_false (by omega)
              have hv : Hid (false = decide (Lg > 1 ∧ Lh > 1)) := (decide_eq_false (fun h => hh h.2)).symm
              go_wp2_with fail
              go_meet
              case rel => exact ⟨congrArg Value.bool hv.out, rfl⟩
          · have hg' : decide ((Lg : Int) > 1) = false := decide_eq_false (by omega)
            have hv : Hid (false = decide (Lg > 1 ∧ Lh > 1)) := (decide_eq_false (fun h => hg h.1)).symm
            go_wp2_with fail
            go_meet
            case rel => exact ⟨congrArg Value.bool hv.out, rfl⟩
        case rest =>
          obtain ⟨rfl, rfl⟩ := hcut
          go_upto_if 119 with fail
          obtain ⟨bb, hbb⟩ : ∃ bb, decide (Lg > 1 ∧ Lh > 1) = bb := ⟨_, rfl⟩
          rw [hbb]
          rename World => wk
          go_cut [17, 18] (fun sg sh wx => ∃ g1 g2 h1 h2 : Nat, sg = .complex .f64 g1 g2 ∧ sh = .complex .f64 h1 h2 ∧ Hid (Below w3.heap.size w3 wx))
          case first =>
            cases bb
            · clear hbb
              go_wp2_with fail
              go_meet
              case rel => exact ⟨_, _, _, _, rfl, rfl, hB3k⟩
            · obtain ⟨hg, hh⟩ := of_decide_eq_true hbb
              clear hbb
              have hl1 : Hid (∀ W, Below w3.heap.size w3 W → Calls Tryd.prog 9 #[.slice ag Lg cg] W fun e w' => ∃ gq cq a c, e = .returned (.slice (some ⟨gq, 0, none⟩) (Lg / 2) cq) ∧ gq < w'.heap.size ∧ w'.cell? ⟨gq, 0, none⟩ = some (.complex .f64 a c) ∧ Below W.heap.size W w') := fun W hW => by
                refine (listOg_c _ gs W (hingH.out.below (below_tr hB3.out hW)) (by rw [hLg.out]; exact hrg)).mono ?_
                rintro e w' ⟨v', rfl, hv', ho, hB⟩
                rw [hLg.out] at ho
                rcases ho.2 with ⟨h, _⟩ | ⟨gq, c, cu, rfl, _⟩
                · exact absurd h hv'
                · have hc := ho.cellAt 0 (by omega)
                  rw [cz_get _ 0 (by rw [prs_len, hLg.out]; omega)] at hc
                  exact ⟨gq, c, _, _, rfl, (ho.lt gq rfl).2, by simpa using hc, hB⟩
              have hl2 : Hid (∀ W, Below w3.heap.size w3 W → Calls Tryd.prog 9 #[.slice ah Lh ch] W fun e w' => ∃ gq cq a c, e = .returned (.slice (some ⟨gq, 0, none⟩) (Lh / 2) cq) ∧ gq < w'.heap.size ∧ w'.cell? ⟨gq, 0, none⟩ = some (.complex .f64 a c) ∧ Below W.heap.size W w') := fun W hW => by
                refine (listOg_c _ hs W (hinhH.out.below (below_tr hB3.out hW)) (by rw [hLh.out]; exact hrh)).mono ?_
                rintro e w' ⟨v', rfl, hv', ho, hB⟩
                rw [hLh.out] at ho
                rcases ho.2 with ⟨h, _⟩ | ⟨gq, c, cu, rfl, _⟩
                · exact absurd h hv'
                · have hc := ho.cellAt 0 (by omega)
                  rw [cz_get _ 0 (by rw [prs_len, hLh.out]; omega)] at hc
                  exact ⟨gq, c, _, _, rfl, (ho.lt gq rfl).2, by simpa using hc, hB⟩
              obtain ⟨K1, hK1, hK1p⟩ : ∃ K1 : Nat, Lg / 2 = K1 ∧ 0 < K1 := ⟨_, rfl, by omega⟩
              obtain ⟨K2, hK2, hK2p⟩ : ∃ K2 : Nat, Lh / 2 = K2 ∧ 0 < K2 := ⟨_, rfl, by omega⟩
              rw [hK1] at hl1
              rw [hK2] at hl2
              have hBD : Hid (Below w3.heap.size w3 wk.drew) := below_drewN hB3k.out 1
              have hflag : Hid True := True.intro
              go_wp2_with fail
              go_region_with (first
                | (go_at_call 9
                   clear hflag
                   refine (hl1.out _ hBD.out).mono ?_
                   rintro e wp ⟨gp, cp, pa, pc, rfl, hgp, kp, Bp⟩
                   have hBp : Hid (Below w3.heap.size w3 wp) := below_tr hBD.out Bp
                   have hgpH : Hid (gp < wp.heap.size) := hgp
                   clear Bp hgp)
                | (go_at_call 9
                   refine (hl2.out _ hBp.out).mono ?_
                   rintro e wq ⟨gq, cq, qa, qc, rfl, hgq, kq, Bq⟩
                   have kp2 := (Bq.cell (p := ⟨gp, 0, none⟩) hgpH.out).trans kp
                   have hBq : Hid (Below w3.heap.size w3 wq) := below_tr hBp.out Bq
                   clear Bq hgq))
              all_goals
                go_wp2_with fail
                go_meet
                case rel => exact ⟨_, _, _, _, rfl, rfl, hBq⟩
          case rest =>
            obtain ⟨g1, g2, h1, h2, rfl, rfl, hB3m⟩ := hcut
            rename World => wm
            go_wp2_with fail
            refine (pS_c _ g1 g2 h1 h2 xs n wm al (heH.out.below (below_tr hB3.out hB3m.out)) ((hRm.out.below hB3m.out).rd cap) hxl.out).mono ?_
            rintro e wd ⟨vi, eri, is, rfl, hEri, Gd, Bd⟩
            have hEriH : Hid (Er al eri (lnE n)) := hEri
            have hGd : Hid (Gro wd wm.heap.size (lnN n) vi (sld n (g1, g2) (h1, h2) fun j => xs.getD j (0, 0)) is) := Gd
            have hB3d : Hid (Below w3.heap.size w3 wd) := below_tr hB3m.out Bd
            clear hEri Gd Bd
            go_wp2_with fail
            refine (rS_c _ g1 g2 h1 h2 xs n wd (hX3.out.below hB3d.out) hxl.out).mono ?_
            rintro e we ⟨vj, js, rfl, Ge, Be⟩
            have hGde : Hid (Gro we wm.heap.size (lnN n) vi (sld n (g1, g2) (h1, h2) fun j => xs.getD j (0, 0)) is) := hGd.out.keep Be
            have hGe : Hid (Gro we wd.heap.size (lnN n) vj (sld n (g1, g2) (h1, h2) fun j => xs.getD j (0, 0)) js) := Ge
            have hB3e : Hid (Below w3.heap.size w3 we) := below_tr hB3d.out Be
            clear Ge Be hGd
            rw [hM.out] at hEriH
            rw [hM.out]
            rw [hN.out] at hGde hGe
            go_wp2_with fail
            refine (numE_c hEriH.out we (heH.out.below (below_tr hB3.out hB3e.out))).mono ?_
            rintro e wf ⟨rfl, Bf⟩
            have hGdf : Hid (Gro wf wm.heap.size i vi (sld n (g1, g2) (h1, h2) fun j => xs.getD j (0, 0)) is) := hGde.out.keep Bf
            have hGef : Hid (Gro wf wd.heap.size i vj (sld n (g1, g2) (h1, h2) fun j => xs.getD j (0, 0)) js) := hGe.out.keep Bf
            have hB3f : Hid (Below w3.heap.size w3 wf) := below_tr hB3e.out Bf
            clear Bf hGde hGe hB3e hB3d
            go_wp2_with fail
            refine (sameList10_c vi vj is js wf hGdf.out.rd hGef.out.rd hGdf.out.lim hGef.out.lim (hGdf.out.alike hGef.out) (by rw [hGdf.out.len]; omega)).mono ?_
            rintro e wg ⟨rfl, dg, rfl⟩
            have hB3g : Hid (Below w3.heap.size w3 (wf.drewN dg)) := below_drewN hB3f.out dg
            go_wp2_with fail
            refine (kept_c g n cap _ xs _ (hRm.out.below hB3g.out) (hX3.out.below hB3g.out) hlim.out hnb hcap).mono ?_
            rintro e wh ⟨rfl, dh, rfl⟩
            have hE : Hid (Below w.heap.size w ((wf.drewN dg).drewN dh)) := below_tr hB3.out (below_drewN hB3g.out dh)
            obtain ⟨wj, hwj⟩ : ∃ wj, Hid ((wf.drewN dg).drewN dh = wj) := ⟨_, (rfl : _ = _)⟩
            rw [hwj.out] at hE ⊢
            go_wp2_with fail
            go_ret
            exact ⟨rfl, hE.out⟩
end Go.Proofs.YtehaokdjdhejlaaDoor
