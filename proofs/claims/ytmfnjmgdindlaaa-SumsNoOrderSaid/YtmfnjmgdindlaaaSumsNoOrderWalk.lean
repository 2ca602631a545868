/-
  SumsNoOrder, walked.
-/
import Derived.Test.YtmfnjmgdindlaaaVg9
import Derived.Test.YtmfnjmgdindlaaaNo9
import Derived.Test.YtmfnjmgdindlaaaRef
import Derived.Deep.DeepCutAuto
namespace Go.Proofs.Ytmfnjmgdindlaaa
open Flo Go.RowKit Ieee
theorem own_under {w w' : World} {B n : Nat} {T : TypeId} {v : Value} {xs : List Value} (h : w.ownsRow B T 1 v n xs) (hb : Below w.heap.size w w') : w'.ownsRow B T 1 v n xs := by
  obtain ⟨h1, h2⟩ := h
  refine ⟨h1, ?_⟩
  rcases h2 with h2 | ⟨g, cap, cur, e, h3, h4, h5⟩
  · exact .inl h2
  · exact .inr ⟨g, cap, cur, e, h3, (hb.block g (Array.getElem?_eq_some_iff.1 h4).1).trans h4, h5⟩
theorem own_slice {w : World} {B n : Nat} {T : TypeId} {v : Value} {xs : List Value} (h : w.ownsRow B T 1 v n xs) (hne : v.ownBlock ≠ none) : ∃ g cap, v = .slice (some ⟨g, 0, none⟩) n cap ∧ n ≤ cap ∧ B ≤ g ∧ g < w.heap.size := by
  rcases h.2 with ⟨e, _⟩ | ⟨g, cap, cur, e, h3, h4, h5, _⟩
  · exact absurd (by rw [e]; rfl) hne
  · exact ⟨g, cap, e, h5, h3, (Array.getElem?_eq_some_iff.1 h4).1⟩
theorem fl_set (xs : List Nat) (i x : Nat) : (fl xs).set i (.float .f64 x) = fl (xs.set i x) := by unfold fl; rw [List.map_set]
set_option maxRecDepth 100000 in
set_option maxHeartbeats 400000 in
theorem negat_c (x : Nat) (w : World) (hx : x < 18446744073709551616) :
    Calls Try.prog 19 #[.float .f64 x] w fun e w' => e = .returned (.float .f64 (Ari.ng x)) ∧ w = w' := by
  have hn := fun w => run_fneg (P := Try.prog) x w hx
  generalize Ari.ng x = z at hn ⊢
  clear hx
  go_enter Try.func19, Try.ntmps19
  go_wp2_with fail
  go_ret
  exact ⟨rfl, rfl⟩
/-- a float less itself is 0 just where it is finite -/
theorem sub_fin {f : Nat} (hf : Ari.fin f) (w : World) : (FloatKind.f64.format.order (fr .sub f f w) 0 == some .eq) = true := by
  have hq : FloatKind.f64.format = double := rfl
  rw [hq]
  have h := hf.1
  have e : double.sub f f = some (double.nearest (if Ari.fz f + Ari.fz (Ari.ng f) = 0 then Ari.sg f && Ari.sg (Ari.ng f) else decide (Ari.fz f + Ari.fz (Ari.ng f) < 0)) (Ari.fz f + Ari.fz (Ari.ng f)).natAbs (-1074)) := by
    rw [Ari.sub_eq f h, Ari.add_fin hf (Ari.fin_ng hf)]
  have z : Ari.fz f + Ari.fz (Ari.ng f) = 0 := by rw [Ari.fz_ng h]; omega
  rw [z, if_pos rfl, Ari.sg_ng h] at e
  have e2 : (Ari.sg f && !Ari.sg f) = false := by cases Ari.sg f <;> rfl
  rw [e2] at e
  have e3 : double.nearest false (0 : Int).natAbs (-1074) = 0 := by decide
  rw [e3] at e
  have : fr .sub f f w = 0 := by
    unfold fr
    rw [show floatBits .sub .f64 f f = double.sub f f from rfl, e]
  rw [this]; decide
theorem sub_nfin {f : Nat} (h : f < 18446744073709551616) (hf : ¬ Ari.fin f) (w : World) : (FloatKind.f64.format.order (fr .sub f f w) 0 == some .eq) = false := by
  have hq : FloatKind.f64.format = double := rfl
  rw [hq]
  have hn : nanB (fr .sub f f w) = true := by
    have : floatBits .sub .f64 f f = none := by
      by_cases hnan : nanB f = true
      · exact nan_left .sub f hnan
      · have hi : f % 9223372036854775808 = 9218868437227405312 := by
          unfold nanB at hnan
          simp only [decide_eq_true_eq] at hnan
          apply Nat.le_antisymm (by omega)
          apply Nat.le_of_not_lt
          intro hlt
          exact hf ⟨h, hlt⟩
        show double.sub f f = none
        unfold Format.sub
        rw [read_inf f h hi]
        cases (decide (9223372036854775808 ≤ f)) <;> rfl
    unfold fr
    rw [this]
    exact nanAt_nan w f f
  have := eq_iff (fr .sub f f w) 0 (fr_lt _ _ _ _) (by decide)
  rw [this, hn]; rfl
theorem store_float (a : Addr) (x : Nat) (w : World) (m : Mode) : (store a (.float .f64 x) m).run Try.prog w = stored Try.prog w a (.float .f64 x) m := run_store Try.prog w a _ m rfl
theorem Fv_nil (w : World) : Fv w (.slice none 0 0) [] := ⟨⟨none, 0, rfl, Nat.le_refl _, by decide, fun h => absurd rfl h⟩, fun x hx => by cases hx⟩
theorem ex_nil : Sm.exB [] = 0 := by decide +kernel
set_option maxRecDepth 100000 in
set_option maxHeartbeats 4000000 in
theorem sumsNoOrder_w (a0 a1 a2 : Option Addr) (n0 n1 n2 c0 c1 c2 : Nat) (bs es : List Nat) (w : World) (l0 : Hid (bs.length = n0)) (l2 : Hid (es.length = n2)) (i0 : Hid (InU w (.slice a0 n0 c0) bs)) (i1 : Hid (∀ i, i < n1 → ∃ b off z, a1 = some ⟨b, off, none⟩ ∧ b < w.heap.size ∧ w.cell? ⟨b, off + i, none⟩ = some (.int .i64 z))) (i2 : Hid (InU w (.slice a2 n2 c2) es))
    (b1 : n1 ≤ 17592186043904) (m0 : Hid (∀ x ∈ bs, x < 18446744073709551616)) (m2 : Hid (∀ x ∈ es, x < 18446744073709551616)) :
    Calls Try.prog 4 #[.slice a0 n0 c0, .slice a1 n1 c1, .slice a2 n2 c2] w fun e w' => e = .returned (.bool true) ∧ Below w.heap.size w w' := by
  obtain ⟨q0, hi0, hz0, hz1, hz2⟩ := info_parts info24
  go_enter Try.func4, Try.ntmps4
  go_wp2_with fail
  refine (lives_c _).mono ?_
  rintro e w1 ⟨rfl, k1⟩
  have k1H : Hid (Below w.heap.size w w1) := k1
  clear k1
  by_cases g0 : n0 > 8192
  · have g0' : (n0 : Int) > 8192 := by omega
    go_wp2_with fail
    go_ret
    exact ⟨rfl, k1H.out⟩
  have g0' : decide ((n0 : Int) > 8192) = false := decide_eq_false (by omega)
  by_cases g2 : n2 > 100
  · have g2' : (n2 : Int) > 100 := by omega
    go_wp2_with fail
    go_ret
    exact ⟨rfl, k1H.out⟩
  have g2' : decide ((n2 : Int) > 100) = false := decide_eq_false (by omega)
  go_wp2_with fail
  have hfl := floats9_c (.slice a0 n0 c0) bs w1 (i0.out.below k1H.out) (by rw [l0.out]; omega)
  rw [l0.out] at hfl
  refine hfl.mono ?_
  clear hfl
  rintro e w2 ⟨v, rfl, O2, hne, k2⟩
  have k2H : Hid (Below w.heap.size w w2) := k1H.out.trans (k2.mono k1H.out.size)
  have hB : Hid (w.heap.size ≤ w1.heap.size) := k1H.out.size
  have hlim : Hid (∀ x ∈ bs.map bt, x < 18446744073709551616) := lim_map m0.out
  have hxl : Hid ((bs.map bt).length = n0) := by show _ = _; rw [List.length_map, l0.out]
  have O2H : Hid (w2.ownsRow w1.heap.size 26 1 v n0 (fl (bs.map bt))) := O2
  have neH : Hid (v.ownBlock ≠ none) := hne
  clear O2 hne k2 i0 m0 l0
  generalize bs.map bt = xs at O2H hlim hxl
  have hE : Hid (Calls Try.prog 12 #[v] w2 (RFb w2 (Sm.exB xs))) := exact_c v xs w2 (fv_own (by rw [hxl.out]; exact O2H.out) hlim.out (by rw [hxl.out]; omega))
  go_wp2_with fail
  refine hE.out.mono ?_
  rintro e w3 ⟨x1, rfl, hx1, hbx, k3⟩
  have hx1H : Hid (x1 < 18446744073709551616) := hx1
  have hbxH : Hid (bt x1 = Sm.exB xs) := hbx
  have k3H : Hid (Below w.heap.size w w3) := k2H.out.trans (k3.mono k2H.out.size)
  have O3 : Hid (w3.ownsRow w1.heap.size 26 1 v n0 (fl xs)) := own_under O2H.out k3
  obtain ⟨g, cap, rfl, hcap, hBg, hgl⟩ := own_slice O3.out neH.out
  have hBgH : Hid (w1.heap.size ≤ g) := hBg
  have hglH : Hid (g < w3.heap.size) := hgl
  clear hx1 hbx k3 hE O2H k2H hBg hgl neH k1H
  by_cases hz : n0 = 0
  · subst hz
    obtain rfl : xs = [] := List.eq_nil_of_length_eq_zero hxl.out
    have hsame : Hid (∀ W, Calls Try.prog 14 #[.float .f64 x1, .float .f64 0] W fun e w' => e = .returned (.bool true) ∧ W = w') := fun W => by
      have := rsame_c x1 0 W hx1H.out (by decide)
      rw [hbxH.out, ex_nil] at this
      exact this
    have q2 : FloatKind.f64.format.order 0 0 = some .eq := by decide
    go_wp2_with fail
    refine (hsame.out _).mono ?_
    rintro e w' ⟨rfl, rfl⟩
    go_wp2_with fail
    refine (exact_c _ [] _ (Fv_nil _)).mono ?_
    rintro e w4 ⟨x2, rfl, hx2, hb2, k4⟩
    rw [ex_nil] at hb2
    obtain rfl := eq_bt hb2 (by decide)
    have k4H : Hid (Below w.heap.size w w4) := k3H.out.trans (k4.mono k3H.out.size)
    clear hx2 hb2 k4
    go_wp2_with fail
    go_ret
    exact ⟨rfl, k4H.out⟩
  have hz' : ((n0 : Int) == 0) = false := beq_eq_false_iff_ne.2 (by omega)
  have hn0 : 0 < n0 := by omega
  go_wp2_with fail
  go_loopw [49] (fun si wr => ∃ (i : Nat) (ys : List Nat), i ≤ n1 ∧ si = .int .i64 (i : Int) ∧ Hid (wr.ownsRow w1.heap.size 26 1 (.slice (some ⟨g, 0, none⟩) n0 cap) n0 (fl ys)) ∧ Hid (ys.Perm xs) ∧ Hid (Below w.heap.size w wr)) (fun si _ => n1 - (RowKit.intOf si).toNat)
  case atStart => exact ⟨0, xs, Nat.zero_le _, rfl, O3, List.Perm.refl _, k3H⟩
  case round =>
    obtain ⟨i, ys, hin, rfl, Oi, Pi, Bi⟩ := hrel
    clear O3 k3H hglH
    have hyl : Hid (ys.length = n0) := by show _ = _; rw [Pi.out.length_eq, hxl.out]
    by_cases hlt : i < n1
    · have hlt' : (i : Int) < (n1 : Int) := by omega
      obtain ⟨b, off, z, rfl, hb, hcell⟩ := i1.out i hlt
      have cz := (Bi.out.cell (p := ⟨b, off + i, none⟩) hb).trans hcell
      obtain ⟨K, hK⟩ : ∃ K : Nat, IntKind.u64.wrap z = (K : Int) := ⟨(IntKind.u64.wrap z).toNat, by rw [IntKind.wrap_u64]; omega⟩
      have hKl : Hid (K < 18446744073709551616) := (by have := hK; rw [IntKind.wrap_u64] at this; omega : K < 18446744073709551616)
      obtain ⟨J, hJ⟩ : ∃ J : Nat, K % n0 = J := ⟨_, rfl⟩
      obtain ⟨H, hH⟩ : ∃ H : Nat, i % n0 = H := ⟨_, rfl⟩
      have hJI : (K : Int) % (n0 : Int) = (J : Int) := by rw [← hJ]; simp
      have hHI : (i : Int) % (n0 : Int) = (H : Int) := by rw [← hH]; simp
      have hJl : J < n0 := by rw [← hJ]; exact Nat.mod_lt _ hn0
      have hHl : H < n0 := by rw [← hH]; exact Nat.mod_lt _ hn0
      have wJ : IntKind.u64.wrap (J : Int) = (J : Int) := wrapId J (by omega)
      have wH : IntKind.u64.wrap (H : Int) = (H : Int) := wrapId H (by omega)
      have wi : IntKind.u64.wrap (i : Int) = (i : Int) := wrapId i (by omega)
      have hJc : (J : Int) < (n0 : Int) := by omega
      have hHc : (H : Int) < (n0 : Int) := by omega
      have hn0H : Hid (n0 ≤ 8192) := (by omega : n0 ≤ 8192)
      clear hJ hH hcell
      have cJ := (World.ownsRow.cellAt Oi.out J (by omega)).trans (fl_get (by rw [hyl.out]; exact hJl))
      have cH := (World.ownsRow.cellAt Oi.out H (by omega)).trans (fl_get (by rw [hyl.out]; exact hHl))
      have fJ := World.ownsRow.frozenAt Oi.out J
      have fH := World.ownsRow.frozenAt Oi.out H
      obtain ⟨p1, p2⟩ := World.ownsRow.stored Oi.out H (.float .f64 (ys.getD J 0))
      obtain ⟨p3, p4⟩ := World.ownsRow.stored p1 J (.float .f64 (ys.getD H 0))
      rw [fl_set, fl_set] at p3
      have hperm : Hid (((ys.set H (ys.getD J 0)).set J (ys.getD H 0)).Perm xs) := by
        have h1 : H < ys.length := by rw [hyl.out]; exact hHl
        have h2 : J < ys.length := by rw [hyl.out]; exact hJl
        have := List.set_set_perm h1 h2
        rw [← getD_at h1, ← getD_at h2] at this
        exact this.trans Pi.out
      have p3H : Hid _ := p3
      have BH : Hid (Below w.heap.size w ((wr.setCell ⟨g, H, none⟩ (.float .f64 (ys.getD J 0))).setCell ⟨g, J, none⟩ (.float .f64 (ys.getD H 0)))) :=
        (Bi.out.setCell (p := ⟨g, H, none⟩) (Nat.le_trans hB.out hBgH.out) _).setCell (p := ⟨g, J, none⟩) (Nat.le_trans hB.out hBgH.out) _
      generalize (ys.set H (ys.getD J 0)).set J (ys.getD H 0) = ys' at p3H hperm
      clear p1 p2 p3 p4 Oi Pi hyl
      generalize ys.getD J 0 = yJ at *
      generalize ys.getD H 0 = yH at *
      by_cases hHJ : H = J
      · subst hHJ
        obtain rfl : yH = yJ := by
          have := cH.symm.trans cJ
          simpa using this
        have hst := @store_float
        go_wp2_with fail
        go_region
        clear hst
        have p5 : Hid (((wr.setCell ⟨g, H, none⟩ (.float .f64 yH)).setCell ⟨g, H, none⟩ (.float .f64 yH)).drew.ownsRow w1.heap.size 26 1 (.slice (some ⟨g, 0, none⟩) n0 cap) n0 (fl ys')) := p3H.out
        have b5 : Hid (Below w.heap.size w ((wr.setCell ⟨g, H, none⟩ (.float .f64 yH)).setCell ⟨g, H, none⟩ (.float .f64 yH)).drew) := BH.out.drew
        generalize ((wr.setCell ⟨g, H, none⟩ (.float .f64 yH)).setCell ⟨g, H, none⟩ (.float .f64 yH)).drew = wn at *
        clear p3H BH cJ cH fJ fH cz
        go_wp2_with fail
        go_roundw
        case rel => exact ⟨i + 1, ys', by omega, by go_num, p5, hperm, b5⟩
        case measure => simp [RowKit.intOf]; omega
      · have hHJ2 : ¬ J = H := fun e => hHJ e.symm
        have hst := @store_float
        go_wp2_with fail
        go_region
        clear hst
        have p5 : Hid (((wr.setCell ⟨g, H, none⟩ (.float .f64 yJ)).setCell ⟨g, J, none⟩ (.float .f64 yH)).drew.ownsRow w1.heap.size 26 1 (.slice (some ⟨g, 0, none⟩) n0 cap) n0 (fl ys')) := p3H.out
        have b5 : Hid (Below w.heap.size w ((wr.setCell ⟨g, H, none⟩ (.float .f64 yJ)).setCell ⟨g, J, none⟩ (.float .f64 yH)).drew) := BH.out.drew
        generalize ((wr.setCell ⟨g, H, none⟩ (.float .f64 yJ)).setCell ⟨g, J, none⟩ (.float .f64 yH)).drew = wn at *
        clear p3H BH cJ cH fJ fH cz
        go_wp2_with fail
        go_roundw
        case rel => exact ⟨i + 1, ys', by omega, by go_num, p5, hperm, b5⟩
        case measure => simp [RowKit.intOf]; omega
    · have hlt' : decide ((i : Int) < (n1 : Int)) = false := decide_eq_false (by omega)
      have hyll : Hid (∀ x ∈ ys, x < 18446744073709551616) := fun x hx => hlim.out x (Pi.out.mem_iff.1 hx)
      have hE : Hid (Calls Try.prog 12 #[.slice (some ⟨g, 0, none⟩) n0 cap] wr (RFb wr (Sm.exB xs))) := by
        have := exact_c (.slice (some ⟨g, 0, none⟩) n0 cap) ys wr (fv_own (by rw [hyl.out]; exact Oi.out) hyll.out (by rw [hyl.out]; omega))
        rw [Sm.exB_perm Pi.out] at this
        exact this
      clear i1
      go_wp2_with fail
      refine hE.out.mono ?_
      rintro e w4 ⟨x2, rfl, hx2, hb2, k4⟩
      have hsame : Hid (∀ W, Calls Try.prog 14 #[.float .f64 x2, .float .f64 x1] W fun e w' => e = .returned (.bool true) ∧ W = w') := fun W => by
        have := rsame_c x2 x1 W hx2 hx1H.out
        rw [hbxH.out, hb2] at this
        simpa using this
      have k4H : Hid (Below w.heap.size w w4) := Bi.out.trans (k4.mono Bi.out.size)
      have O4 : Hid (w4.ownsRow w1.heap.size 26 1 (.slice (some ⟨g, 0, none⟩) n0 cap) n0 (fl ys)) := own_under Oi.out k4
      clear hx2 hb2 k4 hE Oi Bi
      go_wp2_with fail
      refine (hsame.out _).mono ?_
      rintro e w' ⟨rfl, rfl⟩
      clear hsame
      go_wp2_with fail
      have hfl := floats9_c (.slice a2 n2 c2) es w4 (i2.out.below k4H.out) (by rw [l2.out]; omega)
      rw [l2.out] at hfl
      refine hfl.mono ?_
      clear hfl
      rintro e wE ⟨ve, rfl, OE, hneE, kE⟩
      have kEH : Hid (Below w.heap.size w wE) := k4H.out.trans (kE.mono k4H.out.size)
      have OL : Hid (wE.ownsRow w1.heap.size 26 1 (.slice (some ⟨g, 0, none⟩) n0 cap) n0 (fl ys)) := own_under O4.out kE
      obtain ⟨ge, capE, rfl, hcapE, hBE, hgE⟩ := own_slice OE hneE
      have hgg : Hid (g ≠ ge) := fun e => by
        have := (World.ownsRow.lt O4.out g rfl).2
        omega
      have hel : Hid (∀ x ∈ es.map bt, x < 18446744073709551616) := lim_map m2.out
      have hell : Hid ((es.map bt).length = n2) := by show _ = _; rw [List.length_map, l2.out]
      have OEH : Hid (wE.ownsRow w4.heap.size 26 1 (.slice (some ⟨ge, 0, none⟩) n2 capE) n2 (fl (es.map bt))) := OE
      have hgEH : Hid (ge < wE.heap.size) := hgE
      have hwB : Hid (w.heap.size ≤ w1.heap.size) := hB
      clear OE hneE kE k4H O4 hBE hgE i2 m2 l2
      generalize es.map bt = fs at *
      have sub1 := @run_fsub Try.prog
      go_wp2_with fail
      go_loopw [8, 85] (fun lv si wr => ∃ (i : Nat) (zs : List Nat), i ≤ n2 ∧ si = .int .i64 (i : Int) ∧ Hid (wr.ownsRow w1.heap.size 26 1 lv zs.length (fl zs)) ∧ Hid (lv.ownBlock ≠ none ∧ lv.ownBlock ≠ some ge) ∧ Hid (Sm.Rel xs zs) ∧ Hid (∀ x ∈ zs, x < 18446744073709551616) ∧ Hid (zs.length ≤ 8192 + 2 * i) ∧ Hid (wr.heap[ge]? = wE.heap[ge]? ∧ wE.heap.size ≤ wr.heap.size) ∧ Hid (Below w.heap.size w wr)) (fun _ si _ => n2 - (RowKit.intOf si).toNat)
      case atStart => exact ⟨0, ys, Nat.zero_le _, rfl, by rw [hyl.out]; exact OL, ⟨(fun h => by cases h), (fun h => hgg.out (by cases h; rfl))⟩, Sm.Rel.perm Pi.out, hyll, by show _ ≤ _; rw [hyl.out]; omega, ⟨rfl, Nat.le_refl _⟩, kEH⟩
      case round =>
        obtain ⟨i, zs, hin, rfl, Oi, hnb, R, hzl, hzn, hge, Bi⟩ := hrel
        clear OL kEH hyl hyll Pi
        by_cases hlt : i < n2
        · have hlt' : (i : Int) < (n2 : Int) := by omega
          have cf : wr.cell? ⟨ge, i, none⟩ = some (.float .f64 (fs.getD i 0)) := (World.cell?_of_block (a := ⟨ge, i, none⟩) hge.out.1).trans ((World.ownsRow.cellAt OEH.out i (by omega)).trans (fl_get (by rw [hell.out]; exact hlt)))
          have hfl : Hid (fs.getD i 0 < 18446744073709551616) := by
            have h1 : i < fs.length := by rw [hell.out]; exact hlt
            show _ < _
            rw [getD_at h1]; exact hel.out _ (List.getElem_mem h1)
          generalize fs.getD i 0 = f at cf hfl
          by_cases hf : Ari.fin f
          · have s1 := fun W => sub_fin hf W
            have s2 : ∀ W, (FloatKind.f64.format.order (fr .sub f f W) 0 != some .eq) = false := fun W => by have := s1 W; simpa [bne] using this
            have hfH : Hid (Ari.fin f) := hf
            have Od : Hid ((wr.drewN (fk .sub f f)).ownsRow w1.heap.size 26 1 u8 zs.length (fl zs)) := Oi.out
            have hged : Hid ((wr.drewN (fk .sub f f)).heap[ge]? = wE.heap[ge]? ∧ wE.heap.size ≤ (wr.drewN (fk .sub f f)).heap.size) := hge.out
            have Bd : Hid (Below w.heap.size w (wr.drewN (fk .sub f f))) := Bi.out.trans (below_drewN _ _)
            clear hf Oi hge Bi
            go_upto_region 22 with fail
            generalize wr.drewN (fk .sub f f) = wd at *
            clear cf s1 s2
            obtain ⟨L, hL⟩ : ∃ L : Nat, Hid (zs.length = L) := ⟨_, (rfl : _ = _)⟩
            have hLl : L ≤ 8392 := by have h1 := hzn.out; have h2 := hL.out; omega
            have hzn7 : Hid ((Ari.ng f :: (zs ++ [f])).length ≤ 8192 + 2 * (i + 1)) := by
              have := hzn.out
              show _ ≤ _
              rw [List.length_cons, List.length_append]; simp; omega
            rw [hL.out] at Od
            have Od' := Od.out
            obtain ⟨gd, capd, hud, _, hgd1, hgd2⟩ := own_slice Od' hnb.out.1
            have hsz : w1.heap.size ≤ wd.heap.size := by omega
            have hfs : Hid (fl (zs ++ [f]) = fl zs ++ [.float .f64 f]) := by show _ = _; unfold fl; rw [List.map_append]; rfl
            have hfs2 : Hid (fl (Ari.ng f :: (zs ++ [f])) = [.float .f64 (Ari.ng f)] ++ fl (zs ++ [f])) := by show _ = _; unfold fl; rfl
            have hneg : Hid (∀ W, Calls Try.prog 19 #[.float .f64 f] W fun e w' => e = .returned (.float .f64 (Ari.ng f)) ∧ W = w') := fun W => negat_c f W hfl.out
            have hR7 : Hid (Sm.Rel xs (Ari.ng f :: (zs ++ [f]))) := R.out.more hfH.out
            have hl7 : Hid (∀ x ∈ Ari.ng f :: (zs ++ [f]), x < 18446744073709551616) := fun x hx => by
              rcases List.mem_cons.1 hx with rfl | hx
              · exact Ari.ng_lt hfl.out
              · rcases List.mem_append.1 hx with h | h
                · exact hzl.out x h
                · rw [List.mem_singleton.1 h]; exact hfl.out
            have hlen1 : Hid ((fl (zs ++ [f])).length = (L + 1) * 1) := by show _ = _; rw [fl_len, List.length_append, hL.out]; simp
            have hlen2 : Hid ((Ari.ng f :: (zs ++ [f])).length = 1 + (L + 1)) := by show _ = _; rw [List.length_cons, List.length_append, hL.out]; simp; omega
            have hgdge : Hid (ge < wd.heap.size) := Nat.lt_of_lt_of_le hgEH.out hged.out.2
            have hnbH : Hid (u8.ownBlock ≠ some ge) := hnb.out.2
            have hnbN : Hid (u8.ownBlock ≠ none) := hnb.out.1
            clear hnb R hzl hzn hfH hud hgd1 hgd2
            go_wp2_with (at_builtin; refine wpList_append_own_at _ rfl _ _ 24 rfl w1.heap.size 26 q0 (.float .f64 0) 1 8 Try.underlying24 hi0 hz0 hz1 hz2 rfl (by decide) _ _ _ rfl (Od'.alloc _) ⟨wd.heap.size, 0, none⟩ 1 1 [.float .f64 f] rfl rfl (cell_one_new _ _ _) (by simp [Value.oneCell']) (by unfold maxLen; omega) (by omega) (by simp; omega) ?_)
            intro v' w5 hown' hgrow hnil hat
            have O5 : Hid (w5.ownsRow w1.heap.size 26 1 v' (L + 1) (fl (zs ++ [f]))) := by rw [hfs.out]; exact hown'
            have hs5 : Hid (wd.heap.size + 1 ≤ w5.heap.size) := by have := hgrow.size; show _ ≤ _; simpa using this
            have ne5 : v'.ownBlock ≠ none := fun h => by
              rcases hat with e | e
              · exact hnbN.out (e ▸ h)
              · rw [e] at h; cases h
            have hge5 : Hid (w5.heap[ge]? = wE.heap[ge]?) := (hgrow.block ge (by have := hgdge.out; simp; omega) (fun e => hnbH.out e.symm)).trans ((Below.heap_alloc wd _ ge hgdge.out).trans hged.out.1)
            have B5 : Hid (Below w.heap.size w w5) := (Bd.out.alloc Bd.out.size _).grown hgrow (by simp; have := Bd.out.size; omega) (fun k' hk' => Nat.le_trans hwB.out (Od'.lt k' hk').1)
            obtain ⟨g5, cap5, rfl, hc5, hg51, hg52⟩ := own_slice O5.out ne5
            have hsz5 : w1.heap.size ≤ w5.heap.size := by omega
            clear hown' hgrow hnil hat Od Od' hfs ne5 Bd
            go_wp2_with fail
            refine (hneg.out _).mono ?_
            rintro e w' ⟨rfl, rfl⟩
            clear hneg
            have hrow1 : Hid ((w5.alloc (.cells #[.float .f64 (Ari.ng f)] 26)).ownsRow w1.heap.size 26 1 (.slice (some ⟨w5.heap.size, 0, none⟩) 1 1) 1 [.float .f64 (Ari.ng f)]) :=
              ⟨rfl, .inr ⟨w5.heap.size, 1, _, rfl, hsz5, heap_alloc_new w5 _, Nat.le_refl _, by decide, rfl, rfl⟩⟩
            have hnews : Hid (∀ j u, (fl (zs ++ [f]))[j]? = some u → (w5.alloc (.cells #[.float .f64 (Ari.ng f)] 26)).cell? ((⟨g5, 0, none⟩ : Addr).add j) = some u) := fun j u hj => by
              have hjl : j < (fl (zs ++ [f])).length := by
                rcases Nat.lt_or_ge j (fl (zs ++ [f])).length with h | h
                · exact h
                · rw [List.getElem?_eq_none h] at hj; cases hj
              rw [hlen1.out] at hjl
              rw [add_at, Nat.zero_add, World.ownsRow.cellAt (O5.out.alloc _) j hjl]
              exact hj
            have hone : Hid (∀ u ∈ fl (zs ++ [f]), u.oneCell' = true) := fun u hu => by
              unfold fl at hu
              obtain ⟨x, _, rfl⟩ := List.mem_map.1 hu
              rfl
            generalize Ari.ng f = nf at *
            go_wp2_with (at_builtin; refine wpList_append_own_at _ rfl _ _ 24 rfl w1.heap.size 26 q0 (.float .f64 0) 1 8 Try.underlying24 hi0 hz0 hz1 hz2 rfl (by decide) _ _ _ rfl hrow1.out ⟨g5, 0, none⟩ (L + 1) cap5 (fl (zs ++ [f])) rfl hlen1.out hnews.out hone.out (by unfold maxLen; omega) (by omega) (by simp; omega) ?_)
            intro v7 w7 hown7 hgrow7 hnil7 hat7
            have O7 : Hid (w7.ownsRow w1.heap.size 26 1 v7 (nf :: (zs ++ [f])).length (fl (nf :: (zs ++ [f])))) := by rw [hlen2.out, hfs2.out]; exact hown7
            have hgw5 : ge < w5.heap.size := by have := hgdge.out; have := hs5.out; omega
            have nb7 : Hid (v7.ownBlock ≠ none ∧ v7.ownBlock ≠ some ge) := by
              rcases hat7 with e | e
              · rw [e]; exact ⟨(fun h => by cases h), (fun h => by have h1 : w5.heap.size = ge := Option.some.inj h; omega)⟩
              · rw [e]; exact ⟨(fun h => by cases h), (fun h => by have h1 : w5.heap.size + 1 = ge := Option.some.inj h; omega)⟩
            have hge7 : Hid (w7.heap[ge]? = wE.heap[ge]? ∧ wE.heap.size ≤ w7.heap.size) :=
              ⟨(hgrow7.block ge (by simp; omega) (fun e => by have h1 : ge = w5.heap.size := Option.some.inj e; omega)).trans ((Below.heap_alloc w5 _ ge hgw5).trans hge5.out),
               by have h1 := hgrow7.size; have h2 := hs5.out; have h3 := hged.out.2; simp at h1; omega⟩
            have B7 : Hid (Below w.heap.size w w7) := (B5.out.alloc B5.out.size _).grown hgrow7 (by simp; have := B5.out.size; omega) (fun k' hk' => by have h1 : w5.heap.size = k' := Option.some.inj hk'; have h2 := B5.out.size; omega)
            clear hown7 hgrow7 hnil7 hat7 hrow1 hnews hone O5 B5 hge5
            go_wp2_with fail
            go_roundw
            case rel => exact ⟨i + 1, nf :: (zs ++ [f]), by omega, by go_num, O7, nb7, hR7, hl7, hzn7, hge7, B7⟩
            case measure => simp [RowKit.intOf]; omega
          · have s1 := fun W => sub_nfin hfl.out hf W
            have s2 : ∀ W, (FloatKind.f64.format.order (fr .sub f f W) 0 != some .eq) = true := fun W => by have := s1 W; simpa [bne] using this
            clear hf
            go_wp2_with fail
            go_roundw
            case rel => exact ⟨i + 1, zs, by omega, by go_num, Oi.out, hnb, R, hzl, by have := hzn.out; show _ ≤ _; omega, hge.out, Bi.out.trans (below_drewN _ _)⟩
            case measure => simp [RowKit.intOf]; omega
        · have hlt' : decide ((i : Int) < (n2 : Int)) = false := decide_eq_false (by omega)
          have hin2 : i = n2 := by omega
          have hzn2 : Hid (zs.length ≤ 140737488355328) := (by have := hzn.out; omega : zs.length ≤ 140737488355328)
          have hE : Hid (Calls Try.prog 12 #[u8] wr (RFb wr (Sm.exB zs))) := exact_c u8 zs wr (fv_own Oi.out hzl.out hzn2.out)
          clear hin2 OEH
          go_wp2_with fail
          refine hE.out.mono ?_
          rintro e w6 ⟨x3, rfl, hx3, hb3, k6⟩
          have k6H : Hid (Below w.heap.size w w6) := Bi.out.trans (k6.mono Bi.out.size)
          have hcase : (FloatKind.f64.format.order x1 x3 == some .eq) = true ∨ ((FloatKind.f64.format.order x1 x3 == some .eq) = false ∧ (FloatKind.f64.format.order x1 x1 != some .eq) = true ∧ (FloatKind.f64.format.order x3 x3 != some .eq) = true) := by
            have hq : FloatKind.f64.format = double := rfl
            rw [hq]
            have n1 : nanB x1 = nanB (Sm.exB xs) := by rw [← nan_bt x1, hbxH.out]
            have n3 : nanB x3 = nanB (Sm.exB zs) := by rw [← nan_bt x3, hb3]
            rcases R.out.eq with ⟨r1, r2⟩ | ⟨r1, r2, r3⟩
            · right
              rw [eq_iff x1 x3 hx1H.out hx3, ne_self x1 hx1H.out, ne_self x3 hx3, n1, n3, r1, r2]
              exact ⟨rfl, rfl, rfl⟩
            · left
              have e1 := eq_bt hbxH.out r1
              have e3 := eq_bt hb3 r2
              rw [eq_iff x1 x3 hx1H.out hx3, n1, n3, r1, r2, e1, e3, r3]
              simp
          clear hx3 hb3 k6 hE R hbxH
          rcases hcase with c1 | ⟨c1, c2, c3⟩
          · go_wp2_with fail
            go_ret
            exact ⟨rfl, k6H.out⟩
          · go_wp2_with fail
            go_ret
            exact ⟨rfl, k6H.out⟩
end Go.Proofs.Ytmfnjmgdindlaaa
