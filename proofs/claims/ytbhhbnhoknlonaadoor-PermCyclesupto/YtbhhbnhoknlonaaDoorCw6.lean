/-
  The contract of the statements' own 'cycles'.
-/
import Derived.Test.YtbhhbnhoknlonaaDoorCl6
namespace Go.Proofs.YtbhhbnhoknlonaaDoor
open Flo Go.RowKit Go.Shelf
attribute [local go_sem] Oper.semAt_some

theorem getEmptyRow (w : World) (B : Nat) (hB : B ≤ w.heap.size) : (w.alloc (.cells #[] 22)).ownsRow B 22 1 (.slice (some ⟨w.heap.size, 0, none⟩) 0 0) 0 [] :=
  ⟨rfl, .inr ⟨w.heap.size, 0, #[], rfl, hB, heap_alloc_new w _, Nat.le_refl _, Nat.zero_le _, rfl, rfl⟩⟩
/-- what the iterator of Cycles is, for the caller -/
theorem cy_any (p : List Int) (w0 w1 : World) (fv : Value) (n : Nat) (hn : 4 ≤ n) (h : CyF w0 p fv w1) (hpl : p.length ≤ 1048576) (_hww : w0.heap.size ≤ w1.heap.size) (T : Nat → Prop) (hT : ∀ b, w0.heap.size ≤ b → b ≤ w1.heap.size + 6 → ¬ T b) :
    ∃ gf lb, fv = .func (.func gf) #[] lb ∧ (∀ args w, (callFunc gf args).run Tryd.prog w = .ok (.enter gf args) w) ∧
      SeqX Fence.wide n Tryd.prog gf lb (fun x : Value × Nat => #[x.1]) (w1.heap.size + 2) (w1.heap.size + 6) T (CyR p) (CyP p p.length) (fun ys => ys.map (·.2) = lpC p) (fun pre => pre.map (·.2) <+: lpC p) w1 := by
  rcases h with ⟨hc, rfl⟩ | ⟨hc, Bo, g, rfl, hBo, hg, hne, hbx, ho⟩
  · refine ⟨_, _, rfl, enters_of Tryd.func32 (by kernel_rfl) rfl, (cy1_stops n _ _ _ _ _ w1).weaken (fun ys e => ?_) (fun _ e => e.elim)⟩
    rw [e]; unfold lpC; rw [if_neg (by rw [hc]; decide)]; rfl
  · have hgl := (ho.lt g rfl).2
    have hbl := hbx.lt
    have ho0 : w1.ownsRow 0 3 1 (.slice (some ⟨g, 0, none⟩) p.length p.length) p.length (iz p) := by
      obtain ⟨x1, x2⟩ := ho
      exact ⟨x1, x2.imp id (fun ⟨g', c, cu, y1, y2, y3⟩ => ⟨g', c, cu, y1, Nat.zero_le _, y3⟩)⟩
    refine ⟨_, _, rfl, enters_of Tryd.func34 (by kernel_rfl) rfl, ?_⟩
    have hs := cy2_stops n hn Bo (w1.heap.size + 2) p.length T p g w1 (ckB_Ok hc) rfl hpl (fun b h1 h2 => hT b (by omega) (by omega)) (hT Bo hBo (by omega)) (hT g hg (by omega)) hbl hgl (by omega) hbx ho0
    exact hs.weaken (fun ys e => by rw [e]; unfold lpC; rw [if_pos hc]) (fun ys e => by unfold lpC; rw [if_pos hc]; exact e)
/-- the five blocks with which 'cycles' begins -/
structure Five (w : World) (pv : Value) (W : World) : Prop where
  bP : Boxed W w.heap.size 22 pv
  bR : Boxed W (w.heap.size + 1) 42 (.slice none 0 0)
  bT : Boxed W (w.heap.size + 1 + 1) 4 (.bool false)
  oE : W.ownsRow w.heap.size 22 1 (.slice (some ⟨w.heap.size + 1 + 1 + 1, 0, none⟩) 0 0) 0 []
  bL : Boxed W (w.heap.size + 1 + 1 + 1 + 1) 42 (.slice (some ⟨w.heap.size + 1 + 1 + 1, 0, none⟩) 0 0)
  below : Below w.heap.size w W
  size : w.heap.size + 5 ≤ W.heap.size
theorem five (w : World) (pv : Value) : Five w pv (((((w.alloc (.cells #[pv] 22)).alloc (.cells #[.slice none 0 0] 42)).alloc (.cells #[.bool false] 4)).alloc (.cells #[] 22)).alloc (.cells #[.slice (some ⟨w.heap.size + 1 + 1 + 1, 0, none⟩) 0 0] 42)) := by
  refine ⟨?_, ?_, ?_, ?_, ?_, ?_, ?_⟩
  · exact ((((Boxed.new w _ pv).alloc _).alloc _).alloc _).alloc _
  · have h := Boxed.new (w.alloc (.cells #[pv] 22)) 42 (.slice none 0 0)
    rw [World.size_alloc] at h
    exact ((h.alloc _).alloc _).alloc _
  · have h := Boxed.new ((w.alloc (.cells #[pv] 22)).alloc (.cells #[.slice none 0 0] 42)) 4 (.bool false)
    rw [World.size_alloc, World.size_alloc] at h
    exact (h.alloc _).alloc _
  · have h := getEmptyRow (((w.alloc (.cells #[pv] 22)).alloc (.cells #[.slice none 0 0] 42)).alloc (.cells #[.bool false] 4)) w.heap.size (by simp; omega)
    rw [World.size_alloc, World.size_alloc, World.size_alloc] at h
    exact h.alloc _
  · have h := Boxed.new ((((w.alloc (.cells #[pv] 22)).alloc (.cells #[.slice none 0 0] 42)).alloc (.cells #[.bool false] 4)).alloc (.cells #[] 22)) 42 (.slice (some ⟨w.heap.size + 1 + 1 + 1, 0, none⟩) 0 0)
    rw [World.size_alloc, World.size_alloc, World.size_alloc, World.size_alloc] at h
    exact h
  · exact (((((Below.refl _ w).alloc (Nat.le_refl _) _).alloc (by simp) _).alloc (by simp; omega) _).alloc (by simp; omega) _).alloc (by simp; omega) _
  · simp
theorem Five.under {w : World} {pv : Value} {W W' : World} (h : Five w pv W) (hb : Below W.heap.size W W') : Five w pv W' := by
  refine ⟨(hb.block _ h.bP.lt).trans h.bP, (hb.block _ h.bR.lt).trans h.bR, (hb.block _ h.bT.lt).trans h.bT, ?_, (hb.block _ h.bL.lt).trans h.bL, h.below.trans (hb.mono h.below.size), Nat.le_trans h.size hb.size⟩
  obtain ⟨a1, a2⟩ := h.oE
  refine ⟨a1, ?_⟩
  rcases a2 with a2 | ⟨g, cap, cur, hv, hg, hgb, r⟩
  · exact .inl a2
  · exact .inr ⟨g, cap, cur, hv, hg, by rw [hb.block g (Array.getElem?_eq_some_iff.1 hgb).1]; exact hgb, r⟩
theorem own_slice {W : World} {base : Nat} {e : TypeId} {size : Nat} {v : Value} {k : Nat} {xs : List Value} (h : W.ownsRow base e size v k xs) : ∃ ao c, v = .slice ao k c := by
  rcases h.2 with ⟨rfl, rfl⟩ | ⟨g, cap, _, rfl, _⟩
  · exact ⟨_, _, rfl⟩
  · exact ⟨_, _, rfl⟩
set_option maxRecDepth 100000 in
set_option maxHeartbeats 4000000 in
theorem cycles_in (v : Value) (p : List Int) (w : World) (al : List Addr) (he : ErP w al) (hR : RdZ w v p) (hn : p.length ≤ 1048576) :
    CallsIn Fence.wide 8 Tryd.prog 18 #[v] w fun e W' => ∃ v' ys, e = .returned (.tuple #[v', .bool true]) ∧ ys.map (·.2) = lpC p ∧ W'.ownsRow w.heap.size 22 1 v' ys.length (ys.map (·.1)) ∧ CyO p w.heap.size W' ys ∧ Below w.heap.size w W' := by
  have hRH : Hid (RdZ w v p) := hR
  have heH : Hid (ErP w al) := he
  obtain ⟨ao, cap, rfl, _⟩ := hR
  obtain ⟨i0, hi0, hz0, hz1, hz2⟩ := info_parts infoLs
  clear he
  refine callsIn_of_wp_marks Tryd.func18 rfl trivial ?_ rfl
  simp only [Tryd.ntmps18, List.size_toArray, List.length_cons, List.length_nil, Nat.reduceAdd, Nat.reduceSub, Array.replicate_succ, Array.replicate_zero, List.push_toArray, List.append_toArray, List.nil_append, List.cons_append]
  gi_wp2_with fail
  have hF0 := five w (.slice ao p.length cap)
  generalize ((((w.alloc (.cells #[.slice ao p.length cap] 22)).alloc (.cells #[.slice none 0 0] 42)).alloc (.cells #[.bool false] 4)).alloc (.cells #[] 22)).alloc (.cells #[.slice (some ⟨w.heap.size + 1 + 1 + 1, 0, none⟩) 0 0] 42) = W0 at hF0 ⊢
  refine ⟨trivial, (callsIn_wide.2 (pCycles_c _ p W0 al (heH.out.below hF0.below) (hRH.out.below hF0.below) hn)).mono ?_⟩
  rintro e w1 ⟨fv, rfl, hcy, b1⟩
  have hF : Hid (Five w (.slice ao p.length cap) w1) := hF0.under b1
  obtain ⟨gf, lb, rfl, heg, hseq⟩ := cy_any p W0 w1 fv 7 (by decide) hcy hn b1.size (fun b => b = w.heap.size + 1 + 1 + 1 + 1 ∨ b = w.heap.size + 1 + 1 + 1 ∨ w1.heap.size + 6 < b) (fun b h1 h2 => by have := hF0.size; rintro (e | e | e) <;> omega)
  have hegH : Hid (∀ args w, (callFunc gf args).run Tryd.prog w = .ok (.enter gf args) w) := heg
  have hseqH : Hid (SeqX Fence.wide 7 Tryd.prog gf lb (fun x : Value × Nat => #[x.1]) (w1.heap.size + 2) (w1.heap.size + 6) (fun b => b = w.heap.size + 1 + 1 + 1 + 1 ∨ b = w.heap.size + 1 + 1 + 1 ∨ w1.heap.size + 6 < b) (CyR p) (CyP p p.length) (fun ys => ys.map (·.2) = lpC p) (fun pre => pre.map (·.2) <+: lpC p) w1) := hseq
  clear hF0 b1 hcy heg hseq
  have hnil := seqnil gf lb
  gi_wp2_with fail
  clear hnil
  have h1s := hF.out.size
  refine' range_own (C := w1.heap.size + 6) rfl (by decide) (gf := gf) (lb := lb) rfl trivial hegH.out hseqH.out (Below.refl _ _) (fun _ => rfl)
    (by omega) (fun b h1 h2 => by rintro (e | e | e) <;> omega) (fun x W0 W1 l o h hl => CyR.put x W0 W1 l o h hl) (fun x W0 W1 l h hl => CyR.old x W0 W1 l h hl)
    (CyI p (w.heap.size + 1 + 1 + 1) (w.heap.size + 1 + 1 + 1 + 1) (w1.heap.size + 6) w.heap.size (fun b => b = w.heap.size + 1 + 1 + 1 + 1 ∨ b = w.heap.size + 1 + 1 + 1 ∨ w1.heap.size + 6 < b) w1)
    (fun _ _ _ => False) (CyI.ab (by omega) (by omega)) (fun _ => abx_pure _) ⟨⟨_, hF.out.bL, hF.out.oE, fun k e => by cases e; exact .inl rfl⟩, CyO.nil _ _ _, fun _ h => absurd h (by simp), KT.refl _ _⟩ _ ?assign ?body ?done ?stop
  case assign =>
    intro l x W K hK
    gi_wp2
    exact hK
  case body =>
    rintro l pre x Wx V hI hC hRx hp
    obtain ⟨vo, hbx, hov, hvk⟩ := hI.box
    have hlen : pre.length + 1 ≤ p.length := by
      have h1 : (pre.map (·.2) ++ [x.2]).length ≤ (Pm.lp p p.length).length := List.IsPrefix.length_le hp
      have := Pm.lp_len_le p p.length
      simp at h1
      omega
    obtain ⟨ax, cx, hxv⟩ := own_slice hRx.2
    have hxo : x.1.oneCell' = true := by rw [hxv]; rfl
    have hBV := hRx.1
    have hbV : Boxed V (w.heap.size + 1 + 1 + 1 + 1) 42 vo := (hBV.block _ hbx.lt).trans hbx
    have hovV : V.ownsRow w.heap.size 22 1 vo pre.length (pre.map (·.1)) := by
      obtain ⟨a1, a2⟩ := hov
      refine ⟨a1, ?_⟩
      rcases a2 with a2 | ⟨g, cap, cur, hv, hg, hgb, r⟩
      · exact .inl a2
      · exact .inr ⟨g, cap, cur, hv, hg, by rw [hBV.block g (Array.getElem?_eq_some_iff.1 hgb).1]; exact hgb, r⟩
    have hN : w.heap.size ≤ Wx.heap.size := by have := hF.out.below.size; have := hI.kt.size; omega
    obtain ⟨v', w2, hr, ho, hcase⟩ := run_app1 (P := Tryd.prog) (V.alloc (.cells #[x.1] 22)) 42 42 22 i0 (.slice none 0 0) 24 Tryd.underlying42 hi0 hz0 hz1 hz2 rfl w.heap.size vo pre.length (pre.map (·.1)) (hovV.alloc _) x.1 hxo ⟨V.heap.size, 0, none⟩ (by simp [Addr.add]) (by unfold maxLen; omega) (by omega) (by have := hBV.size; simp; omega)
    obtain ⟨hB2, hI2, hk2⟩ := hI.step hRx hC hN rfl hbx hov hvk ho _ hcase
    obtain ⟨g', c', rfl, _⟩ := ownsRow_form ho (by omega)
    obtain ⟨ao2, c2, rfl⟩ := own_slice hov
    have cL := hbV.cell
    have cB := hB2.cell
    have fB := hB2.frozen
    have cS : (w2.setCell ⟨w.heap.size + 1 + 1 + 1 + 1, 0, none⟩ (.slice (some ⟨g', 0, none⟩) (pre.length + 1) c')).cell? ⟨w.heap.size + 1 + 1 + 1 + 1, 0, none⟩ = some (.slice (some ⟨g', 0, none⟩) (pre.length + 1) c') := (hB2.set _).cell
    have cQ := (hI2.kt.boxed hF.out.bP (by rintro (e | e | e) <;> omega)).cell
    have hd : decide ((p.length : Int) < (pre.length : Int) + 1) = false := decide_eq_false (by omega)
    have hd2 : ¬ p.length < pre.length + 1 := by omega
    have hI2H : Hid (CyI p (w.heap.size + 1 + 1 + 1) (w.heap.size + 1 + 1 + 1 + 1) (w1.heap.size + 6) w.heap.size (fun b => b = w.heap.size + 1 + 1 + 1 + 1 ∨ b = w.heap.size + 1 + 1 + 1 ∨ w1.heap.size + 6 < b) w1 (pre ++ [x]) (w2.setCell ⟨w.heap.size + 1 + 1 + 1 + 1, 0, none⟩ (.slice (some ⟨g', 0, none⟩) (pre.length + 1) c'))) := hI2
    have hk2H : Hid (KT (fun b => b = w.heap.size + 1 + 1 + 1 + 1 ∨ b = w.heap.size + 1 + 1 + 1 ∨ w1.heap.size + 6 < b) V (w2.setCell ⟨w.heap.size + 1 + 1 + 1 + 1, 0, none⟩ (.slice (some ⟨g', 0, none⟩) (pre.length + 1) c'))) := hk2
    obtain ⟨xv, xn⟩ := x
    simp only at hxv
    subst hxv
    clear hI hI2 hk2 hB2 ho hcase hov hovV hbx hbV hvk hRx hBV hp hxo hC hN
    gi_wp2_with (gi_at_builtin; refine wpListIn_appR _ rfl _ _ 42 rfl _ _ rfl rfl hr ?_)
    exact ⟨hk2H.out, hI2H.out⟩
  case done =>
    rintro ys V hS hI hK
    obtain ⟨vo, hbx, hov, _⟩ := hI.box
    obtain ⟨ao2, c2, rfl⟩ := own_slice hov
    have hc := hbx.cell
    have bR := hI.kt.boxed hF.out.bR (by rintro (e | e | e) <;> omega)
    have bT := hI.kt.boxed hF.out.bT (by rintro (e | e | e) <;> omega)
    have hcR := bR.cell
    have hfR := bR.frozen
    have hcT := bT.cell
    have hfT := bT.frozen
    have hIH : Hid (CyI p (w.heap.size + 1 + 1 + 1) (w.heap.size + 1 + 1 + 1 + 1) (w1.heap.size + 6) w.heap.size (fun b => b = w.heap.size + 1 + 1 + 1 + 1 ∨ b = w.heap.size + 1 + 1 + 1 ∨ w1.heap.size + 6 < b) w1 ys V) := hI
    have hovH : Hid (V.ownsRow w.heap.size 22 1 (.slice ao2 ys.length c2) ys.length (ys.map (·.1))) := hov
    have hSH : Hid (ys.map (·.2) = lpC p) := hS
    have bRH : Hid (Boxed V (w.heap.size + 1) 42 (.slice none 0 0)) := bR
    have bTH : Hid (Boxed V (w.heap.size + 1 + 1) 4 (.bool false)) := bT
    clear hI hov hS bR bT
    gi_wp2
    have hK' := (KeepsOthers.setCell (V.setCell ⟨w.heap.size + 1, 0, none⟩ (.slice ao2 ys.length c2)) ⟨w.heap.size + 1 + 1, 0, none⟩ (.bool true)).same _ _ ((KeepsOthers.setCell V ⟨w.heap.size + 1, 0, none⟩ (.slice ao2 ys.length c2)).same _ _ hK rfl) rfl
    refine ⟨by simp, .inl ⟨_, _, rfl, run_takeDeferred hK', ?_⟩⟩
    have bR1 := bRH.out.set (.slice ao2 ys.length c2)
    have bT1 := bTH.out.other (B' := w.heap.size + 1) (by omega) (.slice ao2 ys.length c2)
    have bR2 := bR1.other (B' := w.heap.size + 1 + 1) (by omega) (.bool true)
    have bT2 := bT1.set (.bool true)
    have hc5 := cell_kept bR2.cell (grownBy_putObj' _ w1.heap.size (.deferred none)) (fun r e => by cases e; exact ⟨_, hK', rfl⟩)
    have hc6 := cell_kept bT2.cell (grownBy_putObj' _ w1.heap.size (.deferred none)) (fun r e => by cases e; exact ⟨_, hK', rfl⟩)
    have g1 := grownBy_setCell' V (w.heap.size + 1) (.slice ao2 ys.length c2)
    have g2 := grownBy_setCell' (V.setCell ⟨w.heap.size + 1, 0, none⟩ (.slice ao2 ys.length c2)) (w.heap.size + 1 + 1) (.bool true)
    have o1 := hovH.out.kept g1 (.inr (box_ne hovH.out bRH.out (by decide)))
    have o2 := o1.kept g2 (.inr (box_ne o1 bT1 (by decide)))
    have r1 := hIH.out.rows.kept g1 (fun y hy => .inl (box_ne (hIH.out.rows.row y hy) bRH.out (by decide)))
    have r2 := r1.kept g2 (fun y hy => .inl (box_ne (r1.row y hy) bT1 (by decide)))
    refine ⟨.tuple #[.slice ao2 ys.length c2, .bool true], ?_, .slice ao2 ys.length c2, ys, rfl, hSH.out, ?_, ⟨fun y hy => ?_, r2.ap⟩, ?_⟩
    · simp [results, Tryd.f18, go_sem, hc5, hc6]
    · exact ownsRow_putObj o2 _ hK' rfl
    · exact ownsRow_putObj (r2.row y hy) _ hK' rfl
    · have hkt := hIH.out.kt
      have hbl := hF.out.below
      have hbV : Below w.heap.size w V := ⟨hkt.os.trans hbl.os, hkt.tape.trans hbl.tape, hkt.output.trans hbl.output, Nat.le_trans hbl.size hkt.size, fun k hk => (hkt.block k (by omega) (by rintro (e | e | e) <;> omega)).trans (hbl.block k hk)⟩
      exact ((hbV.setCell (p := ⟨w.heap.size + 1, 0, none⟩) (show w.heap.size ≤ w.heap.size + 1 by omega) _).setCell (p := ⟨w.heap.size + 1 + 1, 0, none⟩) (show w.heap.size ≤ w.heap.size + 1 + 1 by omega) _).trans (belowK_b (w := w) (Nat.le_refl _) _ _ _ _ (by omega) hK' rfl rfl)
  case stop =>
    rintro c pre W _ h _
    exact h.elim
end Go.Proofs.YtbhhbnhoknlonaaDoor
