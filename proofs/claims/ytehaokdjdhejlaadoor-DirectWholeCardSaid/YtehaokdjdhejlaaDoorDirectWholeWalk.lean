/-
  DirectWhole: the whole walk.
-/
import Derived.Test.YtehaokdjdhejlaaDoorTn0
namespace Go.Proofs.YtehaokdjdhejlaaDoor
open Flo Go.RowKit
set_option maxRecDepth 100000 in
set_option maxHeartbeats 4000000 in
theorem directWhole.walk (v : Value) (zs : List Int) (s0 : Int) (w : World) (hin : InS w v zs) (hr : zs.length ≤ 17592186043904) :
    Calls Tryd.prog 6 #[v, .int .i64 s0] w fun e w' => e = .returned (.bool true) ∧ Below w.heap.size w w' := by
  obtain ⟨av, cv, rfl, hvc0⟩ := hin
  obtain ⟨L, hL⟩ : ∃ L, Hid (zs.length = L) := ⟨_, (rfl : _ = _)⟩
  have hvc : Hid (∀ i, i < L → ∃ b off, av = some ⟨b, off, none⟩ ∧ b < w.heap.size ∧ w.cell? ⟨b, off + i, none⟩ = some (.int .i64 (zs.getD i 0))) := by show ∀ i, i < L → _; rw [← hL.out]; exact hvc0
  rw [hL.out] at hr
  clear hvc0
  rw [hL.out]
  obtain ⟨A, hA, hAe0⟩ := umod10 (a := s0) (m := 3) (by decide)
  have hAe : (IntKind.u64.wrap s0).tmod 3 = (A : Int) := hAe0
  clear hAe0
  go_enter Tryd.func6, Tryd.ntmps6
  go_wp2_with fail
  refine (lives10_c w).mono ?_
  rintro e w1 ⟨rfl, B1⟩
  have hB1 : Hid (Below w.heap.size w w1) := B1
  clear B1
  obtain ⟨n, hn⟩ : ∃ n, Hid (n = n124 A) := ⟨_, (rfl : _ = _)⟩
  obtain ⟨w2, hw2⟩ : ∃ w2, Hid (w1.alloc (.cells #[.int .i64 1, .int .i64 2, .int .i64 4] 3) = w2) := ⟨_, (rfl : _ = _)⟩
  have hc2 : w2.cell? ⟨w1.heap.size, A, none⟩ = some (.int .i64 (n : Int)) := by
    rw [← hw2.out, cell_of_row _ _ _ _ _ _ (heap_alloc_new w1 _), hn.out]
    match A, hA with
    | 0, _ => rfl | 1, _ => rfl | 2, _ => rfl
  have hB2 : Hid (Below w.heap.size w w2) := by rw [← hw2.out]; exact below_tr hB1.out ((Below.refl _ _).alloc (Nat.le_refl _) _)
  have hA3 : (A : Int) < 3 := by omega
  have hel : ∀ h, ([Value.int IntKind.i64 1, Value.int IntKind.i64 2, Value.int IntKind.i64 4])[A]'h = Value.int .i64 (n : Int) := by
    intro h
    rw [hn.out]
    match A, hA with
    | 0, _ => rfl | 1, _ => rfl | 2, _ => rfl
  have hn4 : Hid (n = 1 ∨ n = 2 ∨ n = 4) := by
    show _ ∨ _
    rw [hn.out]; unfold n124
    repeat' split
    all_goals omega
  have hn0 : 0 < n := by have := hn4.out; omega
  have hnle : n ≤ 4 := by have := hn4.out; omega
  have hmk : Hid (∀ W : World, ∃ w', (Instr.makeSlice 56 (.int .i64 (n : Int)) (.int .i64 (n : Int))).run Tryd.prog W = .ok (.slice (some ⟨W.heap.size, 0, none⟩) n n) w' ∧ Rz w' W.heap.size W.heap.size n (List.replicate n 0) ∧ Below W.heap.size W w') := fun W => by
    obtain ⟨w', h1, h2, h3⟩ := makeI64 W n (by omega)
    refine ⟨w', h1, ⟨?_, List.length_replicate⟩, h3.out⟩
    have := h2.out
    rw [← List.map_replicate (f := fun z => Value.int .i64 z)] at this
    exact this
  go_wp2_with fail
  rw [hw2.out]
  obtain ⟨wa, ha1, ha2, ha3⟩ := hmk.out w2.drew
  obtain ⟨wb, hb1, hb2, hb3⟩ := hmk.out wa
  have hg0 : (0 : Int) ≤ (n : Int) := by omega
  clear hc2 hw2 hel
  go_cut [6, 7] (fun sr si wx => ∃ gr gi, sr = .slice (some ⟨gr, 0, none⟩) n n ∧ si = .slice (some ⟨gi, 0, none⟩) n n ∧ Hid (Rz wx gr gr n (List.replicate n 0) ∧ Rz wx gi gi n (List.replicate n 0) ∧ gr ≠ gi ∧ gr < wx.heap.size ∧ gi < wx.heap.size ∧ w2.heap.size ≤ gr ∧ w2.heap.size ≤ gi ∧ Below w2.heap.size w2 wx))
  case first =>
    have ha2H : Hid (Rz wa w2.drew.heap.size w2.drew.heap.size n (List.replicate n 0)) := ha2
    have ha3H : Hid (Below w2.drew.heap.size w2.drew wa) := ha3
    have hb2H : Hid (Rz wb wa.heap.size wa.heap.size n (List.replicate n 0)) := hb2
    have hb3H : Hid (Below wa.heap.size wa wb) := hb3
    clear ha2 ha3 hb2 hb3
    have hA1 : Hid (w2.heap.size < wa.heap.size) := World.block_lt_of_cell? wa _ (ha2H.out.cell hn0)
    have hA2 : Hid (wa.heap.size < wb.heap.size) := World.block_lt_of_cell? wb _ (hb2H.out.cell hn0)
    have hA4 : Hid (Rz wb w2.heap.size w2.heap.size n (List.replicate n 0)) := ha2H.out.keep hb3H.out
    have hA5 : Hid (Below w2.heap.size w2 wb) := below_tr (w := w2) ((below_drewN (Below.refl _ _) 1).trans ha3H.out) hb3H.out
    go_region
    · go_wp2_with fail
      go_meet
      case rel => exact ⟨_, _, rfl, rfl, hA4.out, hb2H.out, by have := hA1.out; omega, by have := hA1.out; have := hA2.out; omega, hA2.out, Nat.le_refl _, Nat.le_of_lt hA1.out, hA5.out⟩
    · go_wp2_with fail
      go_meet
      case rel => exact ⟨_, _, rfl, rfl, hb2H.out, hA4.out, by have := hA1.out; omega, hA2.out, by have := hA1.out; have := hA2.out; omega, Nat.le_of_lt hA1.out, Nat.le_refl _, hA5.out⟩
  case rest =>
    obtain ⟨gr, gi, rfl, rfl, hcH⟩ := hcut
    clear ha1 hb1 ha2 hb2 ha3 hb3 hmk
    have S0 : Hid (Stw (wc.alloc (.cells #[] 37)) gr gi wc.heap.size n 0 (.slice (some ⟨wc.heap.size, 0, none⟩) 0 0) (List.replicate n 0) (List.replicate n 0)) := by
      obtain ⟨h1, h2, h3, h4, h5, _⟩ := hcH.out
      exact ⟨h1.keep ((Below.refl _ _).alloc (Nat.le_refl _) _), h2.keep ((Below.refl _ _).alloc (Nat.le_refl _) _), emptyCx wc _ (Nat.le_refl _), h3, h4, h5, fun i => by rw [rep0]; decide, fun i => by rw [rep0]; decide, by simp⟩
    have hBc : Hid (Below w2.heap.size w2 (wc.alloc (.cells #[] 37))) := by
      obtain ⟨_, _, _, _, _, _, _, h⟩ := hcH.out
      exact h.alloc h.size _
    have hge : Hid (w2.heap.size ≤ gr ∧ w2.heap.size ≤ gi) := by
      obtain ⟨_, _, _, _, _, h1, h2, _⟩ := hcH.out
      exact ⟨h1, h2⟩
    have hwc2 : Hid (w2.heap.size ≤ wc.heap.size) := by
      obtain ⟨_, _, _, _, _, _, _, h⟩ := hcH.out
      exact h.size
    clear hcH
    go_wp2_with fail
    go_loopw [8, 9] (fun sx sj wx => ∃ (j : Nat) (rs is : List Int), j ≤ n ∧ sj = .int .i64 (j : Int) ∧ Hid (Stw wx gr gi wc.heap.size n j sx rs is) ∧ Hid (Below w2.heap.size w2 wx)) (fun _ sj _ => n - (intOf sj).toNat)
    case atStart => exact ⟨0, _, _, Nat.zero_le _, rfl, S0, hBc⟩
    case round =>
      clear S0 hBc
      obtain ⟨j, rs, is, hj, rfl, S, hb⟩ := hrel
      by_cases hlt : j < n
      · have hlt' : (j : Int) < (n : Int) := by omega
        obtain ⟨D, hD, hD1⟩ : ∃ D : Nat, Hid (D = 2 * j) ∧ 2 * (j : Int) = (D : Int) := ⟨2 * j, (rfl : _ = _), by omega⟩
        obtain ⟨D', hD', hD1'⟩ : ∃ D' : Nat, Hid (D' = D + 1) ∧ (D : Int) + 1 = (D' : Int) := ⟨D + 1, (rfl : _ = _), by omega⟩
        have hD8 : D ≤ 8 := by have := hD.out; omega
        go_upto_if 40 with fail
        go_cut [] (fun wx => ∃ rs' is', Hid (Stw wx gr gi wc.heap.size n j u8 rs' is') ∧ Hid (Below w2.heap.size w2 wx))
        case first =>
          by_cases hlp : D' < L
          · have hlp' : (D' : Int) < (L : Int) := by omega
            obtain ⟨b, off, rfl, hbw, k1⟩ := hvc.out D (by have := hD'.out; omega)
            obtain ⟨b', off', e', _, k2⟩ := hvc.out D' hlp
            cases e'
            have kB := hb.out.mono (Nat.le_refl _)
            have hw12 : Hid (b < w2.heap.size) := Nat.lt_of_lt_of_le hbw hB2.out.size
            have c1 : wr.cell? ⟨b, off + D, none⟩ = some (.int .i64 (zs.getD D 0)) := (hb.out.cell (p := ⟨b, off + D, none⟩) hw12.out).trans ((hB2.out.cell (p := ⟨b, off + D, none⟩) hbw).trans k1)
            have c2 : wr.cell? ⟨b, off + D', none⟩ = some (.int .i64 (zs.getD D' 0)) := (hb.out.cell (p := ⟨b, off + D', none⟩) hw12.out).trans ((hB2.out.cell (p := ⟨b, off + D', none⟩) hbw).trans k2)
            have n1 : ¬ b = gr := by have := hge.out; have := hw12.out; omega
            have n2 : ¬ b = gi := by have := hge.out; have := hw12.out; omega
            have n3 : ¬ gr = gi := S.out.ne
            have n1' : ¬ gr = b := fun e => n1 e.symm
            have n2' : ¬ gi = b := fun e => n2 e.symm
            have n3' : ¬ gi = gr := fun e => n3 e.symm
            have f1 := S.out.rr.frozen j
            have f2 := S.out.ri.frozen j
            have d1 := S.out.rr.cell hlt
            have d2 := S.out.ri.cell hlt
            have hDL : D < L := by have := hD'.out; omega
            have hDL' : (D : Int) < (L : Int) := by omega
            have hW0 : IntKind.i64.wrap (D : Int) = (D : Int) := by rw [IntKind.wrap_i64]; omega
            have hW1 : IntKind.i64.wrap (D' : Int) = (D' : Int) := by rw [IntKind.wrap_i64]; omega
            obtain ⟨za, hza⟩ : ∃ za, Hid (za = (zs.getD D 0).tmod 1099511627776) := ⟨_, (rfl : _ = _)⟩
            obtain ⟨zb, hzb⟩ : ∃ zb, Hid (zb = (zs.getD D' 0).tmod 1099511627776) := ⟨_, (rfl : _ = _)⟩
            have ba : za.natAbs < 1099511627776 := by
              have h1 := Int.lt_tmod_of_pos (zs.getD D 0) (b := 1099511627776) (by decide)
              have h2 := Int.tmod_lt_of_pos (zs.getD D 0) (b := 1099511627776) (by decide)
              rw [← hza.out] at h1 h2
              omega
            have bb : zb.natAbs < 1099511627776 := by
              have h1 := Int.lt_tmod_of_pos (zs.getD D' 0) (b := 1099511627776) (by decide)
              have h2 := Int.tmod_lt_of_pos (zs.getD D' 0) (b := 1099511627776) (by decide)
              rw [← hzb.out] at h1 h2
              omega
            have ea : (zs.getD D 0).tmod 1099511627776 = za := hza.out.symm
            have eb : (zs.getD D' 0).tmod 1099511627776 = zb := hzb.out.symm
            have wa1 : IntKind.i64.wrap za = za := by rw [IntKind.wrap_i64]; omega
            have wb1 : IntKind.i64.wrap zb = zb := by rw [IntKind.wrap_i64]; omega
            have SP : Hid (Stw ((wr.setCell ⟨gr, j, none⟩ (.int .i64 za)).setCell ⟨gi, j, none⟩ (.int .i64 zb)).drew gr gi wc.heap.size n j u8 (rs.set j za) (is.set j zb)) := (S.out.put hlt za zb ba bb).drew
            have BP : Hid (Below w2.heap.size w2 ((wr.setCell ⟨gr, j, none⟩ (.int .i64 za)).setCell ⟨gi, j, none⟩ (.int .i64 zb)).drew) := below_drewN ((hb.out.setCell (p := ⟨gr, j, none⟩) hge.out.1 _).setCell (p := ⟨gi, j, none⟩) hge.out.2 _) 1
            generalize zs.getD D 0 = ya at *
            generalize zs.getD D' 0 = yb at *
            generalize rs.getD j 0 = ra at *
            generalize is.getD j 0 = rb at *
            clear k1 k2 kB hza hzb ba bb
            go_wp2_with fail
            go_region
            go_wp2_with fail
            go_meet
            case rel => exact ⟨_, _, SP, BP⟩
          · have hlp' : decide ((D' : Int) < (L : Int)) = false := decide_eq_false (by omega)
            go_wp2_with fail
            go_meet
            case rel => exact ⟨rs, is, S, hb⟩
        case rest =>
          obtain ⟨rs', is', S', hb'⟩ := hcut
          rename World => wd
          have d1 := S'.out.rr.cell hlt
          have d2 := S'.out.ri.cell hlt
          have hsn : Hid (cz (xlp rs' is' (j + 1)) = cz (xlp rs' is' j) ++ [.complex .f64 (Rp.fl (rs'.getD j 0)) (Rp.fl (is'.getD j 0))]) := by show _ = _; rw [xlp_snoc, cz_snoc]
          have hBx : Hid (wc.heap.size ≤ wd.heap.size) := S'.out.sz
          unfold Rp.fl at hsn
          generalize rs'.getD j 0 = ra at *
          generalize is'.getD j 0 = rb at *
          have hown : Hid (wd.drew.ownsRow wc.heap.size 37 1 u8 j (cz (xlp rs' is' j))) := S'.out.hx
          obtain ⟨i0, hi, hz0, hz1, hz2⟩ := info_cx
          go_wp2_with fail
          go_region_law (refine step_app rfl (.tmp 60) (.tmp 72) 24 rfl wc.heap.size 37 i0 (.complex .f64 0 0) 1 16 Tryd.underlying24 hi hz0 hz1 hz2 rfl (by decide) u8 j (cz (xlp rs' is' j)) (by simp [Act.eval]) (hown.out.alloc _) ⟨wd.drew.heap.size, 0, none⟩ 1 1 [.complex .f64 (floatOfInt .f64 ra) (floatOfInt .f64 rb)] (by simp [Act.eval]) rfl (cell_one_new10 _ _ _) (by simp [Value.oneCell']) (by unfold maxLen; omega) (by omega) (by simp; exact Nat.le_succ_of_le hBx.out) ?_; intro v' w4 hown' hgrow)
          all_goals
            rw [← hsn.out] at hown'
            have S5 : Hid (Stw w4 gr gi wc.heap.size n (j + 1) v' rs' is') := S'.out.drew.app _ hown' hgrow
            have B5 : Hid (Below w2.heap.size w2 w4) := ((below_drewN hb'.out 1).alloc (Nat.le_trans hwc2.out hBx.out) _).grown hgrow (by simp; exact Nat.le_succ_of_le (Nat.le_trans hwc2.out hBx.out)) (fun k' hk' => Nat.le_trans hwc2.out (S'.out.hx.lt k' hk').1)
            clear hown hown' hgrow hsn S' hb' d1 d2
            go_wp2_with fail
            go_roundw
            case rel => exact ⟨j + 1, rs', is', by omega, by go_num, S5, B5⟩
            case measure => simp [intOf]; omega
      · have hlt' : decide ((j : Int) < (n : Int)) = false := decide_eq_false (by omega)
        have ej : j = n := by omega
        subst ej
        rename World => wx
        obtain ⟨xs, hxs⟩ : ∃ xs, Hid (xlp rs is j = xs) := ⟨_, (rfl : _ = _)⟩
        have hxl : Hid (xs.length = j) := by show _ = _; rw [← hxs.out, xlp_len]
        have hX : Hid (RdC wx u8 xs) := by
          have h := S.out.hx
          rw [hxs.out] at h
          exact RdC.of_own (zs := xs) (by rw [hxl.out]; exact h)
        obtain ⟨F, hF⟩ : ∃ F : Nat → Int × Int, Hid (F = fun i => (rs.getD i 0, is.getD i 0)) := ⟨_, (rfl : _ = _)⟩
        have hFs : Hid (∀ i, i < j → Dw.Sml (F i) 1099511627776) := by
          show ∀ i, i < j → _
          intro i _
          rw [hF.out]
          exact ⟨Nat.le_of_lt (S.out.br i), Nat.le_of_lt (S.out.bi i)⟩
        have hxW : Hid (∀ i, i < j → Dw.WP (xs.getD i (0, 0)) (F i)) := by
          show ∀ i, i < j → _
          intro i hi
          rw [← hxs.out, hF.out]
          unfold xlp
          rw [getD_map_range _ _ _ _ hi]
          exact ⟨Dw.flW (by have := S.out.br i; omega), Dw.flW (by have := S.out.bi i; omega)⟩
        have hlim : Hid (Lim xs) := by
          show Lim xs
          intro i hi
          rw [hxl.out] at hi
          exact ⟨Dw.W_lt (hxW.out i hi).1, Dw.W_lt (hxW.out i hi).2⟩
        have hdW : Hid (∀ k, k < j → Dw.WP (dsm j k fun j => xs.getD j (0, 0)) (Dw.ts j k F) ∧ Dw.Sml (Dw.ts j k F) (j * 1099511627776)) := fun k _ => Dw.dsm_W hn4.out (fun i hi => ⟨hxW.out i hi, hFs.out i hi⟩) (by decide)
        obtain ⟨ax, cx, hux⟩ := hX.out.slice hxl.out
        subst hux
        go_wp2_with fail
        refine (forwardOk_c _ xs j wx hX.out hlim.out hxl.out hn0 (by omega)).mono ?_
        rintro e w3 ⟨g, ys, rfl, hg, R3, B3⟩
        have hyW : Hid (∀ k, k < j → Dw.WP (ys.getD k (0, 0)) (Dw.ts j k F)) := fun k hk => Dw.WP_eq (R3.up k hk) (hdW.out k hk).1
        have hYd : Hid (RdC w3 (.slice (some ⟨g, 0, none⟩) j j) ys) := R3.rd
        have hYl : Hid (Lim ys ∧ ys.length = j) := ⟨R3.lim, R3.len⟩
        have hB3 : Hid (Below wx.heap.size wx w3) := B3
        have hXd : Hid (RdC w3 (.slice ax j cx) xs) := hX.out.below B3
        have hr3 : Hid (Rz w3 gr gr j rs ∧ Rz w3 gi gi j is) := ⟨S.out.rr.keep B3, S.out.ri.keep B3⟩
        have hbr : Hid ((∀ i, (rs.getD i 0).natAbs < 1099511627776) ∧ (∀ i, (is.getD i 0).natAbs < 1099511627776)) := ⟨S.out.br, S.out.bi⟩
        have hBw : Hid (Below w.heap.size w w3) := below_tr (hB2.out.trans (hb.out.mono hB2.out.size)) B3
        clear R3 B3 S hX
        go_wp2_with fail
        go_loopw [12, 13, 14] (fun sk _ _ wy => ∃ (k d : Nat), k ≤ j ∧ sk = .int .i64 (k : Int) ∧ Hid (wy = w3.drewN d)) (fun sk _ _ _ => j - (intOf sk).toNat)
        case atStart => exact ⟨0, 0, Nat.zero_le _, rfl, (rfl : w3 = w3.drewN 0)⟩
        case round =>
          obtain ⟨k, d, hkj, rfl, hw⟩ := hrel
          by_cases hltk : k < j
          · have hltk' : (k : Int) < (j : Int) := by omega
            have hrz : Hid (Rz wr gr gr j rs ∧ Rz wr gi gi j is) := by rw [hw.out]; exact ⟨⟨hr3.out.1.own, hr3.out.1.len⟩, ⟨hr3.out.2.own, hr3.out.2.len⟩⟩
            go_wp2_with fail
            refine (turned_c gr gi j k rs is wr hrz.out.1 hrz.out.2 hn4.out hltk hbr.out.1 hbr.out.2).mono ?_
            rintro e w5 ⟨rfl, d2, rfl⟩
            rw [← hF.out]
            have hyk := hyW.out k hltk
            have hdk := (hdW.out k hltk).2
            have o1 : FloatKind.f64.format.order (ys.getD k (0, 0)).1 (floatOfInt .f64 (Dw.ts j k F).1) = some .eq := Dw.W_ord hyk.1 (Dw.flW (by have := hdk.1; omega))
            have o2 : FloatKind.f64.format.order (ys.getD k (0, 0)).2 (floatOfInt .f64 (Dw.ts j k F).2) = some .eq := Dw.W_ord hyk.2 (Dw.flW (by have := hdk.2; omega))
            obtain ⟨bg, og, eg, _, kc⟩ := hYd.out.each hltk hYl.out.2
            cases eg
            rw [Nat.zero_add] at kc
            have hcy : (wr.drewN d2).cell? ⟨g, k, none⟩ = some (.complex .f64 (ys.getD k (0, 0)).1 (ys.getD k (0, 0)).2) := by rw [hw.out]; exact kc
            have hw2 : Hid (wr.drewN d2 = w3.drewN (d + d2)) := by show _ = _; rw [hw.out, World.drewN_drewN]
            generalize (ys.getD k (0, 0)).1 = y1 at *
            generalize (ys.getD k (0, 0)).2 = y2 at *
            generalize (Dw.ts j k F).1 = t1 at *
            generalize (Dw.ts j k F).2 = t2 at *
            generalize wr.drewN d2 = wd at *
            clear hyk hdk kc hw hrz
            go_wp2_with fail
            exact ⟨⟨k + 1, d + d2, by omega, by go_num, hw2⟩, by simp [intOf]; omega⟩
          · have hltk' : decide ((k : Int) < (j : Int)) = false := decide_eq_false (by omega)
            rename World => wy
            have hYy : Hid (RdC wy (.slice (some ⟨g, 0, none⟩) j j) ys) := by rw [hw.out]; exact hYd.out
            have hXy : Hid (RdC wy (.slice ax j cx) xs) := by rw [hw.out]; exact hXd.out
            have hBy : Hid (Below w.heap.size w wy) := by rw [hw.out]; exact below_drewN hBw.out d
            go_wp2_with fail
            refine (inverseOk_c _ ys j wy hYy.out hYl.out.1 hYl.out.2 hn0 (by omega)).mono ?_
            rintro e w6 ⟨g6, bs, rfl, hg6, R6, B6⟩
            have hbW : Hid (∀ i, i < j → Dw.WP (bs.getD i (0, 0)) (F i)) := fun i hi => Dw.WP_eq (R6.up i hi) (Dw.ivk_W hn4.out hi hyW.out hFs.out (fun k hk => (hdW.out k hk).2) (Nat.le_refl _))
            have hR6 : Hid (RdC w6 (.slice (some ⟨g6, 0, none⟩) j j) bs ∧ bs.length = j) := ⟨R6.rd, R6.len⟩
            have hX6 : Hid (RdC w6 (.slice ax j cx) xs) := hXy.out.below B6
            have hB6 : Hid (Below w.heap.size w w6) := below_tr hBy.out B6
            clear R6 B6 hYy hXy hBy hr3
            go_wp2_with fail
            go_loopw [16, 132] (fun _ si wz => ∃ (i d : Nat), i ≤ j ∧ si = .int .i64 (i : Int) ∧ Hid (wz = w6.drewN d)) (fun _ si _ => j - (intOf si).toNat)
            case atStart => exact ⟨0, 0, Nat.zero_le _, rfl, (rfl : w6 = w6.drewN 0)⟩
            case round =>
              obtain ⟨i, d6, hij, rfl, hw6⟩ := hrel
              by_cases hlti : i < j
              · have hlti' : (i : Int) < (j : Int) := by omega
                obtain ⟨b1, o1, e1, _, k1⟩ := hR6.out.1.each hlti hR6.out.2
                cases e1
                rw [Nat.zero_add] at k1
                obtain ⟨b2, off2, rfl, _, k2⟩ := hX6.out.each hlti hxl.out
                have c1 : wr.cell? ⟨g6, i, none⟩ = some (.complex .f64 (bs.getD i (0, 0)).1 (bs.getD i (0, 0)).2) := by rw [hw6.out]; exact k1
                have c2 : wr.cell? ⟨b2, off2 + i, none⟩ = some (.complex .f64 (xs.getD i (0, 0)).1 (xs.getD i (0, 0)).2) := by rw [hw6.out]; exact k2
                have o1 : FloatKind.f64.format.order (bs.getD i (0, 0)).1 (xs.getD i (0, 0)).1 = some .eq := Dw.W_ord (hbW.out i hlti).1 (hxW.out i hlti).1
                have o2 : FloatKind.f64.format.order (bs.getD i (0, 0)).2 (xs.getD i (0, 0)).2 = some .eq := Dw.W_ord (hbW.out i hlti).2 (hxW.out i hlti).2
                generalize (bs.getD i (0, 0)).1 = y1 at *
                generalize (bs.getD i (0, 0)).2 = y2 at *
                generalize (xs.getD i (0, 0)).1 = y3 at *
                generalize (xs.getD i (0, 0)).2 = y4 at *
                clear k1 k2
                go_wp2_with fail
                go_quiet (fail)
                have hw7 : Hid (wr.drewN nq = w6.drewN (d6 + nq)) := by show _ = _; rw [hw6.out, World.drewN_drewN]
                clear hw6 c1 c2
                generalize wr.drewN nq = wd at *
                go_wp2_with fail
                go_roundw
                case rel => exact ⟨i + 1, d6 + nq, by omega, by go_num, hw7⟩
                case measure => simp [intOf]; omega
              · have hlti' : decide ((i : Int) < (j : Int)) = false := decide_eq_false (by omega)
                have hE : Hid (Below w.heap.size w wr) := by rw [hw6.out]; exact below_drewN hB6.out d6
                go_wp2_with fail
                go_ret
                exact ⟨rfl, hE.out⟩
end Go.Proofs.YtehaokdjdhejlaaDoor
