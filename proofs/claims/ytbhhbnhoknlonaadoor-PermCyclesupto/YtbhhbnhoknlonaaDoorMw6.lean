/-
  The contract of package perm's move, at lists of ints: along each cycle.
-/
import Derived.Test.YtbhhbnhoknlonaaDoorMr6
namespace Go.Proofs.YtbhhbnhoknlonaaDoor
open Flo Go.RowKit Go.Shelf
attribute [local go_sem] Oper.semAt_some

/-- the sentinel that move answers at lists of different lengths -/
def ErL (w : World) (al : List Addr) : Prop := w.cell? ⟨7, 0, none⟩ = some (ek al 6)
theorem ErL.below {w w' : World} {al : List Addr} (h : ErL w al) (hb : Below w.heap.size w w') : ErL w' al := (hb.cell (p := ⟨7, 0, none⟩) (cell_lt h)).trans h
theorem Errs.len6 {w : World} {al : List Addr} (h : Errs w al) : ErL w al := errLength_cell h
theorem RdT.rd {T : Nat → Prop} {w : World} {v : Value} {p : List Int} (h : RdT T w v p) : RdZ w v p := by
  obtain ⟨ao, cap, rfl, h2⟩ := h
  refine ⟨ao, cap, rfl, fun hz => ?_⟩
  obtain ⟨b, off, rfl, h3, _, h4⟩ := h2 hz
  exact ⟨b, off, rfl, h3, h4⟩
/-- what move answers -/
def MvR (w : World) (al : List Addr) (g B m : Nat) (lv : Value) (p q : List Int) (e : Ending) (w' : World) : Prop :=
  (ckB p = false ∧ e = .returned (ek al 11) ∧ Below w.heap.size w w') ∨ (ckB p = true ∧ m ≠ p.length ∧ e = .returned (ek al 6) ∧ Below w.heap.size w w') ∨
  (ckB p = true ∧ m = p.length ∧ e = .returned .nilIface ∧ w'.ownsRow B 3 1 lv m (iz (afL p q p.length)) ∧ KT (fun b => b = g) w w')
set_option maxRecDepth 100000 in
set_option maxHeartbeats 4000000 in
theorem move_in (g c B : Nat) (pv : Value) (p q : List Int) (w : World) (al : List Addr) (he : ErP w al) (heL : ErL w al) (hn : p.length ≤ 1048576)
    (hown : w.ownsRow B 3 1 (.slice (some ⟨g, 0, none⟩) q.length c) q.length (iz q)) (hR : RdT (fun b => b = g) w pv p) :
    CallsIn Fence.wide 6 Tryd.prog 36 #[.slice (some ⟨g, 0, none⟩) q.length c, pv] w (MvR w al g B q.length (.slice (some ⟨g, 0, none⟩) q.length c) p q) := by
  have hgw : g < w.heap.size := (hown.lt g rfl).2
  have hgB : Hid (B ≤ g) := (hown.lt g rfl).1
  have hRH : Hid (RdT (fun b => b = g) w pv p) := hR
  have hoH : Hid (w.ownsRow B 3 1 (.slice (some ⟨g, 0, none⟩) q.length c) q.length (iz q)) := hown
  have heH : Hid (ErP w al) := he
  have heLH : Hid (ErL w al) := heL
  obtain ⟨ao, cap, rfl, hrd⟩ := hR
  obtain ⟨m, hm⟩ : ∃ m, q.length = m := ⟨_, rfl⟩
  have hmH : Hid (q.length = m) := hm
  rw [hm] at hoH ⊢
  clear hrd he heL hown hm
  refine callsIn_of_wp_marks Tryd.func36 rfl trivial ?_ rfl
  simp only [Tryd.ntmps36, List.size_toArray, List.length_cons, List.length_nil, Nat.reduceAdd, Nat.reduceSub, Array.replicate_succ, Array.replicate_zero, List.push_toArray, List.append_toArray, List.nil_append, List.cons_append]
  gi_wp2_with fail
  have bL0 := (Boxed.new w 22 (.slice (some ⟨g, 0, none⟩) m c)).alloc (.cells #[.slice ao p.length cap] 22)
  have bP0 := Boxed.new (w.alloc (.cells #[.slice (some ⟨g, 0, none⟩) m c] 22)) 22 (.slice ao p.length cap)
  have hb0 : Below w.heap.size w ((w.alloc (.cells #[.slice (some ⟨g, 0, none⟩) m c] 22)).alloc (.cells #[.slice ao p.length cap] 22)) := ((Below.refl _ w).alloc (Nat.le_refl _) _).alloc (by simp) _
  have hz0 : ((w.alloc (.cells #[.slice (some ⟨g, 0, none⟩) m c] 22)).alloc (.cells #[.slice ao p.length cap] 22)).heap.size = w.heap.size + 2 := by simp
  rw [World.size_alloc] at bP0
  generalize (w.alloc (.cells #[.slice (some ⟨g, 0, none⟩) m c] 22)).alloc (.cells #[.slice ao p.length cap] 22) = W0 at bL0 bP0 hb0 hz0 ⊢
  have hb0H : Hid (Below w.heap.size w W0) := hb0
  refine ⟨trivial, (callsIn_wide.2 (pCheck_c _ p W0 al (heH.out.below hb0) (hRH.out.below hb0).rd (by omega))).mono ?_⟩
  rintro e w1 ⟨rfl, b1⟩
  have B1 : Hid (Below w.heap.size w w1) := hb0H.out.trans (b1.mono (by omega))
  have bL1 : Hid (Boxed w1 w.heap.size 22 (.slice (some ⟨g, 0, none⟩) m c)) := (b1.block _ bL0.lt).trans bL0
  have bP1 : Hid (Boxed w1 (w.heap.size + 1) 22 (.slice ao p.length cap)) := (b1.block _ bP0.lt).trans bP0
  have hz1 : Hid (w.heap.size + 2 ≤ w1.heap.size) := (by have := b1.size; omega : w.heap.size + 2 ≤ w1.heap.size)
  have cL := bL1.out.cell
  have cP := bP1.out.cell
  clear b1 bL0 bP0 hb0 hz0 hb0H
  cases hck : ckB p
  · rw [ckN_false hck, show er al 12 = ek al 11 from rfl]
    have n1 := nnil_c al 11
    have g1 := guard_c al 11
    have hckH : Hid (ckB p = false) := hck
    clear hck
    gi_wp2
    exact ⟨_, results_tmp rfl _ _ _, .inl ⟨hckH.out, rfl, B1.out⟩⟩
  · rw [ckN_true hck, show er al 0 = Value.nilIface from rfl]
    have hckH : Hid (ckB p = true) := hck
    have hok : Hid (Pm.Ok p) := ckB_Ok hck
    clear hck
    by_cases hmp : m = p.length
    · rw [← hmp] at bP1 cP
      rw [← hmp]
      have hmpH : Hid (m = p.length) := hmp
      have hm9 : m ≤ 1048576 := by omega
      have hRH2 : Hid (RdT (fun b => b = g) w1 (.slice ao m cap) p) := (by rw [hmp]; exact hRH.out.below B1.out : RdT (fun b => b = g) w1 (.slice ao m cap) p)
      clear hmp hRH hn
      gi_wp2_with fail
      clear cL cP
      refine ⟨trivial, (leastPlaces_in _ 5 trivial rfl ao m cap w1).mono ?_⟩
      rintro e w2 ⟨rfl, rfl⟩
      have bL2 := bL1.out.alloc (.cells #[.slice ao m cap] 22)
      have bP2 := bP1.out.alloc (.cells #[.slice ao m cap] 22)
      have bQ2 := Boxed.new w1 22 (.slice ao m cap)
      have hb2 : Below w.heap.size w (w1.alloc (.cells #[.slice ao m cap] 22)) := B1.out.alloc (by have := hz1.out; omega) _
      have hR2 : RdT (fun b => b = g) (w1.alloc (.cells #[.slice ao m cap] 22)) (.slice ao m cap) p := hRH2.out.below ((Below.refl _ _).alloc (Nat.le_refl _) _)
      have hz2 : (w1.alloc (.cells #[.slice ao m cap] 22)).heap.size = w1.heap.size + 1 := by simp
      have ho2 : (w1.alloc (.cells #[.slice ao m cap] 22)).ownsRow B 3 1 (.slice (some ⟨g, 0, none⟩) m c) m (iz q) := by
        refine ⟨hoH.out.1, ?_⟩
        rcases hoH.out.2 with h1 | ⟨g', cap', cur, h0, h1, h2, h3⟩
        · exact .inl h1
        · cases h0
          exact .inr ⟨g, c, cur, rfl, h1, (hb2.block g hgw).trans h2, h3⟩
      obtain ⟨s2, hs2⟩ : ∃ s2, w1.heap.size = s2 := ⟨_, rfl⟩
      rw [hs2] at bQ2 hz2 hz1 ⊢
      generalize w1.alloc (.cells #[.slice ao m cap] 22) = W2 at bL2 bP2 bQ2 hb2 hR2 hz2 ho2 ⊢
      have bL : Hid (Boxed W2 w.heap.size 22 (.slice (some ⟨g, 0, none⟩) m c)) := bL2
      have bP : Hid (Boxed W2 (w.heap.size + 1) 22 (.slice ao m cap)) := bP2
      have bQ : Hid (Boxed W2 s2 22 (.slice ao m cap)) := bQ2
      have hB2 : Hid (Below w.heap.size w W2) := hb2
      have hRW : Hid (RdT (fun b => b = g) W2 (.slice ao m cap) p) := hR2
      have hzW : Hid (W2.heap.size = s2 + 1) := hz2
      have hoW : Hid (W2.ownsRow B 3 1 (.slice (some ⟨g, 0, none⟩) m c) m (gl (mvx p q 0 0) m)) := (by
        rw [show gl (mvx p q 0 0) m = iz q by rw [iz_gl, hmH.out]; exact gl_congr fun i _ => mvx_0 p q i]; exact ho2 : W2.ownsRow B 3 1 (.slice (some ⟨g, 0, none⟩) m c) m (gl (mvx p q 0 0) m))
      clear bL2 bP2 bQ2 hb2 hR2 hz2 ho2 hs2 hoH hRH2 bL1 bP1 B1 heH heLH
      gi_wp2_with fail
      refine' range_own rfl (by decide) (gf := 37) (lb := #[.pointer (some ⟨s2, 0, none⟩)]) rfl trivial (enters_of Tryd.func37 (by kernel_rfl) rfl)
        (lp_stops 5 (by decide) s2 (W2.heap.size + 2) m (fun b => b = g) p (.slice ao m cap) W2 hok.out hmpH.out.symm hm9 (by have := hzW.out; have := hz1.out; show ¬ _ = _; omega) (by have := hz1.out; show ¬ _ = _; omega) (by have := hzW.out; omega) (by have := hzW.out; omega) bQ.out.cell hRW.out) (Below.refl _ _) (fun _ => rfl)
        (Nat.le_refl _) (fun b h1 h2 e => by have := hzW.out; have := hz1.out; have e' : b = g := e; omega) (fun _ W0 W1 l o h _ => by rw [h]) (fun _ W0 W1 l h _ => by rw [h])
        (fun pre W => (∃ k, k ≤ m ∧ pre = Pm.lp p k ∧ W.ownsRow B 3 1 (.slice (some ⟨g, 0, none⟩) m c) m (gl (mvx p q k 0) m)) ∧ KT (fun b => b = g) W2 W)
        (fun _ _ _ => False) ?ab (fun _ => abx_pure _) ⟨⟨0, Nat.zero_le _, rfl, hoW.out⟩, KT.refl _ _⟩ _ ?assign ?body ?done ?stop
      case ab =>
        refine AbX.and ?_ (abx_kt (Nat.le_refl _))
        rintro pre X Y row ⟨k, h1, h2, h3⟩ hg hr
        refine ⟨k, h1, h2, h3.kept hg (.inr fun e => ?_)⟩
        have := (hr g e.symm).1
        have := hzW.out; have := hz1.out
        omega
      case assign =>
        intro l x W K hK
        gi_wp2
        exact hK
      case body =>
        rintro l pre x Wx W ⟨⟨k, hk, hpre, hrow⟩, hkt⟩ hC rfl hp
        obtain ⟨hpx, hxm, hsx⟩ := Pm.lp_split hp
        have hxp : Hid (x < p.length) := (by rw [← hmpH.out]; exact hxm : x < p.length)
        have hrow0 : Hid (Wx.ownsRow B 3 1 (.slice (some ⟨g, 0, none⟩) m c) m (gl (mvx p q x 0) m)) := (by
          rw [show gl (mvx p q x 0) m = gl (mvx p q k 0) m from gl_congr fun y _ => mvx_lp hok.out (by rw [← hmpH.out]; omega) (by rw [← hmpH.out]; exact hk) (by rw [← hpx, ← hpre]) y]; exact hrow : Wx.ownsRow B 3 1 (.slice (some ⟨g, 0, none⟩) m c) m (gl (mvx p q x 0) m))
        have hktH : Hid (KT (fun b => b = g) W2 Wx) := hkt
        have hsH : Hid (Pm.sn p x x = false) := hsx
        have hpxH : Hid (pre = Pm.lp p x) := hpx
        have cL := (hkt.boxed bL.out (by show ¬ _ = _; omega)).cell
        have cP := (hkt.boxed bP.out (by show ¬ _ = _; omega)).cell
        have c1 := hrow0.out.cellAt x (by omega)
        rw [gl_get _ hxm, show mvx p q x 0 x = q.getD x 0 by unfold mvx; rw [Pm.sx_zero, hsx]; rfl] at c1
        have hxm' : (x : Int) < (m : Int) := by omega
        obtain ⟨z, hz⟩ : ∃ z, q.getD x 0 = z := ⟨_, rfl⟩
        have hzH : Hid (q.getD x 0 = z) := hz
        rw [hz] at c1
        clear hz hpx hsx hpre hrow hkt hp hk
        gi_wp2
        clear c1 cL cP
        gi_loopw [8] (fun sa wx => ∃ t : Nat, t < Pm.per p x ∧ sa = .int .i64 ((Pm.it p x t : Nat) : Int) ∧ Hid (wx.ownsRow B 3 1 (.slice (some ⟨g, 0, none⟩) m c) m (gl (mvx p q x t) m)) ∧ Hid (KT (fun b => b = g) Wx wx)) (fun sa _ => mvM p x sa)
        case atStart => exact ⟨0, Pm.per_pos p x, rfl, hrow0, KT.refl _ _⟩
        case round =>
          obtain ⟨t, ht, rfl, hrow, hkx⟩ := hrel
          have hk2 : Hid (KT (fun b => b = g) W2 wr) := hktH.out.trans hkx.out
          have cL := (hk2.out.boxed bL.out (by show ¬ _ = _; omega)).cell
          have cP := (hk2.out.boxed bP.out (by show ¬ _ = _; omega)).cell
          have hitp : Pm.it p x t < p.length := hok.out.it_lt hxp.out t
          have hitq : Pm.it p x (t + 1) < p.length := hok.out.it_lt hxp.out (t + 1)
          obtain ⟨ao', cap', he', hrd⟩ := hRW.out.kt hk2.out
          have hea : ao' = ao := by cases he'; rfl
          rw [hea] at hrd
          obtain ⟨b, off, hab, hbw, hTb, hcell⟩ := hrd (fun e => by rw [e] at hitp; simp at hitp)
          rw [hab] at cP
          have hbg : b ≠ g := hTb
          have haoH : Hid (ao = some ⟨b, off, none⟩) := hab
          clear he' hea hab
          have c1 := hcell (Pm.it p x t) hitp
          rw [hok.out.val hitp, show Pm.sg p (Pm.it p x t) = Pm.it p x (t + 1) from rfl] at c1
          have f1 := hrow.out.frozenAt (Pm.it p x t)
          have hst : Hid (∀ u, (wr.drew.setCell ⟨g, Pm.it p x t, none⟩ (.int .i64 u)).ownsRow B 3 1 (.slice (some ⟨g, 0, none⟩) m c) m ((gl (mvx p q x t) m).set (Pm.it p x t) (.int .i64 u)) ∧ wr.drew.grownBy (wr.drew.setCell ⟨g, Pm.it p x t, none⟩ (.int .i64 u)) (some g)) := fun u => hrow.out.drew.stored (Pm.it p x t) (.int .i64 u)
          have hst2 : Hid (∀ u, (wr.setCell ⟨g, Pm.it p x t, none⟩ (.int .i64 u)).ownsRow B 3 1 (.slice (some ⟨g, 0, none⟩) m c) m ((gl (mvx p q x t) m).set (Pm.it p x t) (.int .i64 u)) ∧ wr.grownBy (wr.setCell ⟨g, Pm.it p x t, none⟩ (.int .i64 u)) (some g)) := fun u => hrow.out.stored (Pm.it p x t) (.int .i64 u)
          have hstep : Hid ((gl (mvx p q x t) m).set (Pm.it p x t) (.int .i64 (q.getD (Pm.it p x (t + 1)) 0)) = gl (mvx p q x (t + 1)) m) := mvx_step p q m x t
          have c0 := hrow.out.cellAt (Pm.it p x t) (by rw [← hmpH.out] at hitp; omega)
          rw [gl_get _ (by rw [hmpH.out]; exact hitp)] at c0
          have hm1 : (Pm.it p x t : Int) < (m : Int) := by rw [← hmpH.out] at hitp; omega
          have hm2 : (Pm.it p x (t + 1) : Int) < (m : Int) := by rw [← hmpH.out] at hitq; omega
          have hMt : Hid (mvM p x (.int .i64 ((Pm.it p x t : Nat) : Int)) = Pm.per p x - t) := mvM_eq hok.out hxp.out ht
          by_cases htp : t + 1 < Pm.per p x
          · have hne : Pm.it p x (t + 1) ≠ x := Pm.per_min p (by omega) htp
            have q1 : ((Pm.it p x (t + 1) : Int) == (x : Int)) = false := beq_eq_false_iff_ne.2 (by omega)
            have q2 : ((Pm.it p x (t + 1) : Int) != (x : Int)) = true := by simp [bne, q1]
            have c2 := hrow.out.cellAt (Pm.it p x (t + 1)) (by rw [← hmpH.out] at hitq; omega)
            have hsx9 : Pm.sx p x t (Pm.it p x (t + 1)) = false := by
              have := hok.out.sx_no hxp.out hsH.out htp
              rw [Pm.sx_succ] at this
              exact (Bool.or_eq_false_iff.1 this).1
            rw [gl_get _ (by rw [hmpH.out]; exact hitq), show mvx p q x t (Pm.it p x (t + 1)) = q.getD (Pm.it p x (t + 1)) 0 by unfold mvx; rw [hsx9]; rfl] at c2
            have hMs : Hid (mvM p x (.int .i64 ((Pm.it p x (t + 1) : Nat) : Int)) = Pm.per p x - (t + 1)) := mvM_eq hok.out hxp.out htp
            obtain ⟨u, hu⟩ : ∃ u, q.getD (Pm.it p x (t + 1)) 0 = u := ⟨_, rfl⟩
            rw [hu] at c2 hstep
            have hs9 := hst.out u
            rw [hstep.out] at hs9
            have hrow9 : Hid ((wr.drew.setCell ⟨g, Pm.it p x t, none⟩ (.int .i64 u)).ownsRow B 3 1 (.slice (some ⟨g, 0, none⟩) m c) m (gl (mvx p q x (t + 1)) m)) := hs9.1
            have hk9 : Hid (KT (fun b => b = g) Wx (wr.drew.setCell ⟨g, Pm.it p x t, none⟩ (.int .i64 u))) := hkx.out.drew.trans (KT.grown hs9.2 (fun b e => by cases e; rfl))
            have c1' : (wr.drew.setCell ⟨g, Pm.it p x t, none⟩ (.int .i64 u)).cell? ⟨b, off + Pm.it p x t, none⟩ = some (.int .i64 ((Pm.it p x (t + 1) : Nat) : Int)) := by
              rw [World.cell?_setCell_other _ _ _ _ (fun e => hbg (congrArg Addr.block e).symm)]; exact c1
            have cP' : (wr.drew.setCell ⟨g, Pm.it p x t, none⟩ (.int .i64 u)).cell? ⟨w.heap.size + 1, 0, none⟩ = some (.slice (some ⟨b, off, none⟩) m cap) := by
              rw [World.cell?_setCell_other _ _ _ _ (fun e => by have := congrArg Addr.block e; simp at this; omega)]; exact cP
            clear hs9 hu hsx9 hne hcell hrd hbw hTb hitp hitq hst hst2 hstep
            gi_wp2
            refine mv_reg cL cP c1 c2 c0 f1 hm1 hm2 ?_
            clear cL cP c1 c2 c0 f1
            simp only [Exit.inBlock, Exit.then]
            rename_i hKK
            refine hKK _ _ ?_
            clear hKK
            generalize wr.drew.setCell ⟨g, Pm.it p x t, none⟩ (.int .i64 u) = W9 at hrow9 hk9 c1' cP' ⊢
            gi_wp2
            go_roundw
            case rel => exact ⟨t + 1, htp, rfl, hrow9, hk9⟩
            case measure =>
              change mvM p x (.int .i64 ((Pm.it p x (t + 1) : Nat) : Int)) < mvM p x (.int .i64 ((Pm.it p x t : Nat) : Int))
              rw [hMs.out, hMt.out]; omega
          · have etp : t + 1 = Pm.per p x := by omega
            have e9 : Pm.it p x (t + 1) = x := by rw [etp]; exact hok.out.it_per hxp.out
            rw [e9] at c1 hstep hm2
            have q1 : ((x : Int) == (x : Int)) = true := by simp
            have q2 : ((x : Int) != (x : Int)) = false := by simp
            rw [hzH.out] at hstep
            have hs9 := hst2.out z
            rw [hstep.out] at hs9
            have hrow9 : Hid ((wr.setCell ⟨g, Pm.it p x t, none⟩ (.int .i64 z)).ownsRow B 3 1 (.slice (some ⟨g, 0, none⟩) m c) m (gl (mvx p q (x + 1) 0) m)) := (by
              rw [show gl (mvx p q (x + 1) 0) m = gl (mvx p q x (t + 1)) m from gl_congr fun y _ => by rw [etp, mvx_per]]; exact hs9.1 : (wr.setCell ⟨g, Pm.it p x t, none⟩ (.int .i64 z)).ownsRow B 3 1 (.slice (some ⟨g, 0, none⟩) m c) m (gl (mvx p q (x + 1) 0) m))
            have hk9 : Hid (KT (fun b => b = g) Wx (wr.setCell ⟨g, Pm.it p x t, none⟩ (.int .i64 z))) := hkx.out.trans (KT.grown hs9.2 (fun b e => by cases e; rfl))
            clear hs9 etp e9 htp hcell hrd hbw hTb hitp hitq hst hst2 hstep
            gi_wp2
            exact ⟨hk9.out, ⟨x + 1, hxm, by rw [Pm.lp_yes hsH.out, hpxH.out], hrow9.out⟩, hktH.out.trans hk9.out⟩
      case done =>
        rintro xs W rfl ⟨⟨k, hk, hpre, hrow⟩, hkt⟩ hK
        have hres : Hid (W.ownsRow B 3 1 (.slice (some ⟨g, 0, none⟩) m c) m (iz (afL p q p.length))) := (by
          rw [afL_gl, ← hmpH.out, show gl (fun y => q.getD (Pm.sg p y) 0) m = gl (mvx p q k 0) m from gl_congr fun y hy => by
            rw [mvx_lp hok.out (by rw [← hmpH.out]; exact hk) (Nat.le_refl p.length) (by rw [← hpre, hmpH.out]), mvx_full hok.out (by rw [← hmpH.out]; exact hy)]]
          exact hrow : W.ownsRow B 3 1 (.slice (some ⟨g, 0, none⟩) m c) m (iz (afL p q p.length)))
        have hktH : Hid (KT (fun b => b = g) W2 W) := hkt
        clear hrow hkt hpre hk
        gi_wp2
        refine ⟨by simp, .inl ⟨_, _, rfl, run_takeDeferred hK, _, results_tmp rfl _ _ _, .inr (.inr ⟨hckH.out, hmpH.out, rfl, ?_, ?_⟩)⟩⟩
        · exact ownsRow_putObj hres.out _ hK rfl
        · have h9 := hktH.out
          have hB := hB2.out
          have hzz := hzW.out
          have hz1' := hz1.out
          refine ⟨h9.os.trans hB.os, h9.tape.trans hB.tape, h9.output.trans hB.output, by rw [putObj_size]; have := hB.size; have := h9.size; omega, fun b hb hT => ?_⟩
          rw [World.putObj_heap_other (by omega), h9.block b (by omega) hT, hB.block b hb]
      case stop =>
        rintro c pre W _ h _
        exact h.elim
    · have q1 : ((m : Int) == (p.length : Int)) = false := beq_eq_false_iff_ne.2 (by omega)
      have q2 : ((m : Int) != (p.length : Int)) = true := by simp [bne, q1]
      have hv : w1.cell? ⟨7, 0, none⟩ = some (ek al 6) := heLH.out.below B1.out
      gi_wp2
      exact ⟨_, results_tmp rfl _ _ _, .inr (.inl ⟨hckH.out, hmp, rfl, B1.out⟩)⟩
end Go.Proofs.YtbhhbnhoknlonaaDoor
