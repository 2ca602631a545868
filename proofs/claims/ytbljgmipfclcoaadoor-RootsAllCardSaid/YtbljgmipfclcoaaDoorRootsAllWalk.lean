/-
  The walk of RootsAll.
-/
import Derived.Test.YtbljgmipfclcoaaDoorPz7
import Derived.Test.YtbljgmipfclcoaaDoorLaid
import Derived.Test.YtbljgmipfclcoaaDoorRows
namespace Go.Proofs.YtbljgmipfclcoaaDoor
open Flo Go.RowKit
theorem Errs.drawnA {w : World} {al : List Addr} (h : Errs w al) (k : Nat) : Errs (w.drewN k) al := h.below (below_drewN (Below.refl _ _) k)
theorem same7_q (a b : Nat) (w : World) (ha : a < 18446744073709551616) (hb : b < 18446744073709551616) :
    Calls Tryd.prog 19 #[.complex .f64 a b, .complex .f64 a b] w fun e w' => e = .returned (.bool true) ∧ w' = w :=
  (same7_c a b a b w ha hb ha hb rfl rfl).mono fun _ _ h => ⟨h.1, h.2.symm⟩
/-- the list, its first i numbers written over -/
def ovr (n i : Nat) : List Value := (List.range n).map fun k => if k < i then .complex .f64 4619567317775286272 0 else .complex .f64 (Rp.pc n k) (Rp.pim n k)
theorem ovr_0 (n : Nat) : ovr n 0 = cz (rl n) := by
  apply List.ext_getElem
  · simp [ovr, cz, rl]
  · intro k h1 h2; simp [ovr, cz, rl, rlv]
theorem ovr_step {n i : Nat} : (ovr n i).set i (.complex .f64 4619567317775286272 0) = ovr n (i + 1) := by
  apply List.ext_getElem
  · simp [ovr]
  · intro k h1 h2
    rw [List.getElem_set]
    simp only [ovr, List.getElem_map, List.getElem_range]
    by_cases c : i = k
    · subst c; simp
    · rw [if_neg c]
      by_cases hk : k < i
      · rw [if_pos hk, if_pos (by omega)]
      · rw [if_neg hk, if_neg (by omega)]
set_option maxRecDepth 100000 in
set_option maxHeartbeats 8000000 in
theorem all_no (n : Int) (w : World) (al : List Addr) (he : Errs w al) (hc : inn n = false) :
    Calls Tryd.prog 5 #[.int .i64 n] w fun e w' => e = .returned (.bool true) ∧ Below w.heap.size w w' := by
  have q1 := fun w he => allNo_c n w al he hc
  have q2 := fun w => r7AllNo_c n w hc
  obtain ⟨i0, hi, hz0, hz1, hz2⟩ := info_cx
  have h0 : Hid (Errs w al) := he
  clear he hc
  go_enter Tryd.func5, Tryd.ntmps5
  go_wp2_with fail
  refine (lives7_c _).mono ?_
  rintro e w1 ⟨rfl, B1⟩
  have h1 : Hid (Errs w1 al) := h0.out.below B1
  have A1 : Hid (Below w.heap.size w w1) := B1
  clear B1 h0
  go_wp2_with fail
  refine (q1 _ h1.out).mono ?_
  rintro e w2 ⟨rfl, B2⟩
  have h2 : Hid (Errs w2 al) := h1.out.below B2
  have A2 : Hid (Below w.heap.size w w2) := below_tr A1.out B2
  clear B2 h1 A1
  go_wp2_with fail
  refine (q1 _ h2.out).mono ?_
  rintro e w3 ⟨rfl, B3⟩
  have h3 : Hid (Errs w3 al) := h2.out.below B3
  have A3 : Hid (Below w.heap.size w w3) := below_tr A2.out B3
  clear B3 h2 A2
  go_wp2_with fail
  refine (q2 _).mono ?_
  rintro e w4 ⟨rfl, rfl⟩
  go_wp2_with fail
  refine (numE_c (Er.mk al 6 (by decide)) _ h3.out).mono ?_
  rintro e w5 ⟨rfl, B5⟩
  have h5 : Hid (Errs w5 al) := h3.out.below B5
  have A5 : Hid (Below w.heap.size w w5) := below_tr A3.out B5
  clear B5 h3 A3
  go_wp2_with fail
  refine (numE_c (Er.mk al 6 (by decide)) _ h5.out).mono ?_
  rintro e w6 ⟨rfl, B6⟩
  have A6 : Hid (Below w.heap.size w w6) := below_tr A5.out B6
  clear B6 h5 A5 q1 q2
  go_wp2_with fail
  go_loopw [9, 10, 56] (fun _ _ si wx => si = .int .i64 0 ∧ wx = w6) (fun _ _ _ _ => 0)
  case atStart => exact ⟨rfl, rfl⟩
  case round =>
    obtain ⟨rfl, rfl⟩ := hrel
    have hown : wr.ownsRow w.heap.size 36 1 (.slice none 0 0) 0 [] := ⟨rfl, .inl ⟨rfl, rfl⟩⟩
    have hsz := A6.out.size
    go_wp2_with (at_builtin; refine wpList_append_own _ rfl _ _ 47 rfl w.heap.size 36 i0 (.complex .f64 0 0) 1 16 Tryd.underlying47 hi hz0 hz1 hz2 rfl (by decide) _ _ _ rfl (hown.alloc _) ⟨wr.heap.size, 0, none⟩ 1 1 [.complex .f64 4620693217682128896 0] rfl rfl ?c1 ?c2 ?c3 ?c4 ?c5 ?_)
    case c1 =>
      intro j u hj
      match j, hj with
      | 0, hj => simp at hj; subst hj; simp [Addr.add]
    case c2 => intro u hu; simp at hu; subst hu; rfl
    case c3 => unfold maxLen; omega
    case c4 => omega
    case c5 => simp; omega
    · intro v' w7 hown' hgrow _
      have A7 : Hid (Below w.heap.size w w7) := (A6.out.alloc hsz _).grown hgrow (by simp; omega) (fun k' hk' => by cases hk')
      obtain ⟨F, C, rfl, hF⟩ : ∃ F C, v' = .slice (some ⟨F, 0, none⟩) 1 C ∧ w7.cell? ⟨F, 0, none⟩ = some (.complex .f64 4620693217682128896 0) := by
        rcases hown'.2 with ⟨_, h⟩ | ⟨g, c, _, h, hg, _⟩
        · exact absurd h (by decide)
        · refine ⟨g, c, h, ?_⟩
          rw [h] at hown'
          have := hown'.cellAt 0 (by decide)
          rw [this]; rfl
      have o8 : FloatKind.f64.format.order 4620693217682128896 4620693217682128896 = some .eq := by decide +kernel
      have o0 : FloatKind.f64.format.order 0 0 = some .eq := by decide +kernel
      clear hown' hgrow hown hsz A6
      go_wp2_with fail
      go_loopw [11, 12, 79] (fun _ _ si wx => si = .int .i64 0 ∧ wx = w7) (fun _ _ _ _ => 0)
      case atStart => exact ⟨rfl, rfl⟩
      case round =>
        obtain ⟨rfl, rfl⟩ := hrel
        go_wp2_with fail
        go_ret
        exact ⟨rfl, A7.out⟩
set_option maxRecDepth 100000 in
set_option maxHeartbeats 8000000 in
theorem all_yes (m : Nat) (w : World) (hm0 : 0 < m) (hm : m ≤ 16384) :
    Calls Tryd.prog 5 #[.int .i64 m] w fun e w' => e = .returned (.bool true) ∧ Below w.heap.size w w' := by
  have q1 := fun w => allOk_c m w hm0 hm
  have q2 := fun w => r7AllOk_c m w hm0 hm
  have hlim : Hid (∀ j, Rp.pc m j < 18446744073709551616 ∧ Rp.pim m j < 18446744073709551616) := fun j => ⟨(Rp.pc_fin j hm0 (by omega)).1, (Rp.pim_fin j hm0 (by omega)).1⟩
  obtain ⟨i0, hi, hz0, hz1, hz2⟩ := info_cx
  go_enter Tryd.func5, Tryd.ntmps5
  go_wp2_with fail
  refine (lives7_c _).mono ?_
  rintro e w1 ⟨rfl, B1⟩
  have A1 : Hid (Below w.heap.size w w1) := B1
  clear B1
  go_wp2_with fail
  refine (q1 _).mono ?_
  rintro e w2 ⟨G1, rfl, g1, o1, B2⟩
  have A2 : Hid (Below w.heap.size w w2) := below_tr A1.out B2
  have O1 : Hid (w2.ownsRow w.heap.size 36 1 (.slice (some ⟨G1, 0, none⟩) m m) m (cz (rl m))) := own_base o1 A1.out.size
  have L1 : Hid (G1 < w2.heap.size) := (Cel.own o1 hm0).lt
  clear B2 A1 o1 g1
  go_wp2_with fail
  refine (q1 _).mono ?_
  rintro e w3 ⟨G2, rfl, g2, o2, B3⟩
  have A3 : Hid (Below w.heap.size w w3) := below_tr A2.out B3
  have O1 : Hid (w3.ownsRow w.heap.size 36 1 (.slice (some ⟨G1, 0, none⟩) m m) m (cz (rl m))) := own_blw O1.out B3
  have C2 : Hid (Cel w3 G2 m) := Cel.own o2 hm0
  have N12 : Hid (G1 < G2) := Nat.lt_of_lt_of_le L1.out g2
  have L1 : Hid (G1 < w3.heap.size) := Nat.lt_of_lt_of_le L1.out B3.size
  clear B3 A2 o2 g2
  go_wp2_with fail
  refine (q2 _).mono ?_
  rintro e w4 ⟨G3, cp, rfl, g3, c3, B4⟩
  have A4 : Hid (Below w.heap.size w w4) := below_tr A3.out B4
  have O1 : Hid (w4.ownsRow w.heap.size 36 1 (.slice (some ⟨G1, 0, none⟩) m m) m (cz (rl m))) := own_blw O1.out B4
  have C2 : Hid (Cel w4 G2 m) := C2.out.below B4
  have N13 : Hid (G1 < G3) := Nat.lt_of_lt_of_le L1.out g3
  have C3 : Hid (Cel w4 G3 m) := c3
  clear B4 A3 c3 g3 L1 q1 q2
  go_wp2_with fail
  refine (num_nil _).mono ?_
  rintro e w5 ⟨rfl, rfl⟩
  go_wp2_with fail
  refine (num_nil _).mono ?_
  rintro e w5 ⟨rfl, rfl⟩
  go_wp2_with fail
  go_loopw [9, 10, 56] (fun _ _ si wx => ∃ i : Nat, i ≤ m ∧ si = .int .i64 (i : Int) ∧ Hid (wx.ownsRow w.heap.size 36 1 (.slice (some ⟨G1, 0, none⟩) m m) m (ovr m i)) ∧ Hid (Cel wx G2 m) ∧ Hid (Cel wx G3 m) ∧ Hid (Below w.heap.size w wx)) (fun _ _ si _ => m - (intOf si).toNat)
  case atStart => exact ⟨0, Nat.zero_le _, rfl, (by rw [ovr_0]; exact O1.out), C2, C3, A4⟩
  case round =>
    clear O1 C2 C3 A4
    obtain ⟨i, him, rfl, hO, hC2, hC3, hB⟩ := hrel
    by_cases hlt : i < m
    · have hlt' : (i : Int) < (m : Int) := by omega
      obtain ⟨lx, ly⟩ := hlim.out i
      have c1 := hO.out.cellAt i (by omega)
      have cA : wr.cell? ⟨G1, i, none⟩ = some (.complex .f64 (Rp.pc m i) (Rp.pim m i)) := by rw [c1]; simp [ovr, hlt]
      have cW := hC3.out.at_ i hlt
      clear c1
      generalize Rp.pc m i = px at *
      generalize Rp.pim m i = py at *
      go_wp2_with fail
      go_quiet ((go_at_call 19; exact Calls.quiet_of_same (same7_q _ _ _ lx ly)))
      have bD : Below wr.heap.size wr (wr.drewN nq) := below_drewN (Below.refl _ _) nq
      have oD := own_blw hO.out bD
      have d2 := hC2.out.below bD
      have d3 := hC3.out.below bD
      have hBD : Below w.heap.size w (wr.drewN nq) := below_drewN hB.out nq
      have cAD : (wr.drewN nq).cell? ⟨G1, i, none⟩ = some (.complex .f64 px py) := cA
      clear hO hC2 hC3 hB bD cA cW
      generalize wr.drewN nq = wd at *
      have f2 := oD.frozenAt i
      have hst := oD.stored i (.complex .f64 4619567317775286272 0)
      rw [ovr_step] at hst
      have s1 : Hid ((wd.setCell ⟨G1, i, none⟩ (.complex .f64 4619567317775286272 0)).ownsRow w.heap.size 36 1 (.slice (some ⟨G1, 0, none⟩) m m) m (ovr m (i + 1))) := hst.1
      have s2 : Hid (Cel (wd.setCell ⟨G1, i, none⟩ (.complex .f64 4619567317775286272 0)) G2 m) := d2.grown hst.2 (fun e => by have := N12.out; cases e; omega)
      have s3 : Hid (Cel (wd.setCell ⟨G1, i, none⟩ (.complex .f64 4619567317775286272 0)) G3 m) := d3.grown hst.2 (fun e => by have := N13.out; cases e; omega)
      have s4 : Hid (Below w.heap.size w (wd.setCell ⟨G1, i, none⟩ (.complex .f64 4619567317775286272 0))) := hBD.grown hst.2 hBD.size (fun k hk => by cases hk; exact (oD.lt G1 rfl).1)
      have hsc := store_cx
      clear hst d2 d3 oD hBD
      go_wp2_with fail
      go_roundw
      case rel => exact ⟨i + 1, by omega, by go_num, s1, s2, s3, s4⟩
      case measure => simp [intOf]; omega
    · have hlt' : decide ((i : Int) < (m : Int)) = false := decide_eq_false (by omega)
      have ei : i = m := by omega
      subst ei
      have hO2 := hO.out
      have hsz := hB.out.size
      go_wp2_with (at_builtin; refine wpList_append_own _ rfl _ _ 47 rfl w.heap.size 36 i0 (.complex .f64 0 0) 1 16 Tryd.underlying47 hi hz0 hz1 hz2 rfl (by decide) _ _ _ rfl (hO2.alloc _) ⟨wr.heap.size, 0, none⟩ 1 1 [.complex .f64 4620693217682128896 0] rfl rfl ?c1 ?c2 ?c3 ?c4 ?c5 ?_)
      case c1 =>
        intro j u hj
        match j, hj with
        | 0, hj => simp at hj; subst hj; simp [Addr.add]
      case c2 => intro u hu; simp at hu; subst hu; rfl
      case c3 => unfold maxLen; omega
      case c4 => omega
      case c5 => simp; omega
      · intro v' w7 hown' hgrow _
        have hgrow0 : (wr.alloc (.cells #[.complex .f64 4620693217682128896 0] 36)).grownBy w7 (some G1) := hgrow
        have A7 : Hid (Below w.heap.size w w7) := (hB.out.alloc hsz _).grown hgrow0 (by simp; omega) (fun k' hk' => by cases hk'; exact (hO2.lt G1 rfl).1)
        have b7 : Below wr.heap.size wr (wr.alloc (.cells #[.complex .f64 4620693217682128896 0] 36)) := (Below.refl _ _).alloc (Nat.le_refl _) _
        have s2 : Hid (Cel w7 G2 i) := (hC2.out.below b7).grown hgrow0 (fun e => by have := N12.out; cases e; omega)
        have s3 : Hid (Cel w7 G3 i) := (hC3.out.below b7).grown hgrow0 (fun e => by have := N13.out; cases e; omega)
        obtain ⟨F, C, rfl, hF⟩ : ∃ F C, v' = .slice (some ⟨F, 0, none⟩) (i + 1) C ∧ w7.cell? ⟨F, i, none⟩ = some (.complex .f64 4620693217682128896 0) := by
          rcases hown'.2 with ⟨_, h⟩ | ⟨g, c, _, h, hg, _⟩
          · exact absurd h (by omega)
          · refine ⟨g, c, h, ?_⟩
            rw [h] at hown'
            have := hown'.cellAt i (by omega)
            rw [this]
            have hl : (ovr i i).length = i := by simp [ovr]
            rw [List.getElem?_append_right (by omega), hl]
            simp
        have o8 : FloatKind.f64.format.order 4620693217682128896 4620693217682128896 = some .eq := by decide +kernel
        have o0 : FloatKind.f64.format.order 0 0 = some .eq := by decide +kernel
        have hFH : Hid (w7.cell? ⟨F, i, none⟩ = some (.complex .f64 4620693217682128896 0)) := hF
        obtain ⟨i1, hi1⟩ : ∃ i1, i + 1 = i1 := ⟨_, rfl⟩
        have hi1H : Hid (i + 1 = i1) := hi1
        rw [hi1]
        clear hown' hgrow hgrow0 hO hO2 hsz hB hC2 hC3 b7 hF hi1
        go_wp2_with fail
        go_loopw [11, 12, 79] (fun _ _ sj wx => ∃ j q : Nat, j ≤ i ∧ sj = .int .i64 (j : Int) ∧ wx = w7.drewN q) (fun _ _ sj _ => i - (intOf sj).toNat)
        case atStart => exact ⟨0, 0, Nat.zero_le _, rfl, rfl⟩
        case round =>
          obtain ⟨j, q, hj, rfl, rfl⟩ := hrel
          by_cases hlt2 : j < i
          · have hlt2' : (j : Int) < (i : Int) := by omega
            obtain ⟨lx, ly⟩ := hlim.out j
            have c2 : (w7.drewN q).cell? ⟨G2, j, none⟩ = some (.complex .f64 (Rp.pc i j) (Rp.pim i j)) := s2.out.at_ j hlt2
            have c3 : (w7.drewN q).cell? ⟨G3, j, none⟩ = some (.complex .f64 (Rp.pc i j) (Rp.pim i j)) := s3.out.at_ j hlt2
            generalize Rp.pc i j = px at *
            generalize Rp.pim i j = py at *
            generalize hwx : w7.drewN q = wx at c2 c3 ⊢
            have hw : Hid (w7.drewN q = wx) := hwx
            clear hwx
            go_wp2_with fail
            go_quiet ((go_at_call 19; exact Calls.quiet_of_same (same7_q _ _ _ lx ly)))
            go_wp2_with fail
            go_roundw
            case rel => exact ⟨j + 1, q + nq, by omega, by go_num, by rw [← hw.out, World.drewN_drewN]⟩
            case measure => simp [intOf]; omega
          · have hlt2' : decide ((j : Int) < (i : Int)) = false := decide_eq_false (by omega)
            have cF : (w7.drewN q).cell? ⟨F, i, none⟩ = some (.complex .f64 4620693217682128896 0) := hFH.out
            have e1 : (i1 : Int) - 1 = (i : Int) := by have := hi1H.out; omega
            have e2 : (i : Int) < (i1 : Int) := by have := hi1H.out; omega
            have e3 : i < i1 := by have := hi1H.out; omega
            have A8 : Hid (Below w.heap.size w (w7.drewN q)) := below_drewN A7.out q
            go_wp2_with fail
            go_ret
            exact ⟨rfl, A8.out⟩
end Go.Proofs.YtbljgmipfclcoaaDoor
namespace Go.Proofs.YtbljgmipfclcoaaDoor.rootsAll
open Go.RowKit
theorem walk (x0 : Int) (w : World) (_l0 : -9223372036854775808 ≤ x0) (_u0 : x0 ≤ 9223372036854775807) (hL : laidMetH Tryd.prog Rows.rootsAllRow.laid w) :
    Calls Tryd.prog 5 #[.int .i64 x0] w fun e w' => e = .returned (.bool true) ∧ Below w.heap.size w w' := by
  obtain ⟨al, he⟩ := errs_of (W := w) hL
  cases hc : inn x0
  · exact all_no x0 w al he hc
  · obtain ⟨h1, h2⟩ := of_decide_eq_true hc
    obtain ⟨m, rfl⟩ := Int.eq_ofNat_of_zero_le (show 0 ≤ x0 by omega)
    exact all_yes m w (by omega) (by omega)
end Go.Proofs.YtbljgmipfclcoaaDoor.rootsAll
