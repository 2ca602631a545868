/-
  The contracts of package perm's leastPlaces and Sign.
-/
import Derived.Test.YtbhhbnhoknlonaaDoorLp6
import Derived.Test.YtbhhbnhoknlonaaDoorQd5
namespace Go.Proofs.YtbhhbnhoknlonaaDoor
open Flo Go.RowKit Go.Shelf
attribute [local go_sem] Oper.semAt_some

theorem abx_boxed {β : Type} {B C b : Nat} {t : TypeId} (f : β → Value) (h : b < B) : AbX B C (fun s W => Boxed W b t (f s)) := fun _ _ _ _ hs hg hr => hs.kept hg fun e => by have := (hr b e.symm).1; omega
theorem abx_below {β : Type} {B C n₀ : Nat} {w : World} (h : n₀ ≤ B) (h2 : n₀ ≤ w.heap.size) : AbX B C (fun (_ : β) W => Below n₀ w W) := fun _ _ _ _ hs hg hr => hs.grown hg (by have := hs.size; omega) fun k e => by have := (hr k e).1; omega
theorem AbX.and {β : Type} {B C : Nat} {I J : β → World → Prop} (h : AbX B C I) (k : AbX B C J) : AbX B C (fun s W => I s W ∧ J s W) := fun s W W' row hs hg hr => ⟨h s W W' row hs.1 hg hr, k s W W' row hs.2 hg hr⟩
theorem abx_own {β : Type} {B C base : Nat} {e : TypeId} {size : Nat} (v : β → Value) (n : β → Nat) (xs : β → List Value) (h : ∀ s g, (v s).ownBlock = some g → g < B) : AbX B C (fun s W => W.ownsRow base e size (v s) (n s) (xs s)) := fun s _ _ row hs hg hr => hs.kept hg (by
  by_cases c : (v s).ownBlock = none
  · exact .inl c
  · right
    intro e
    obtain ⟨g, hgv⟩ := Option.ne_none_iff_exists'.1 c
    have h1 := h s g hgv
    rw [hgv] at e
    have h2 := (hr g e.symm).1
    omega)
theorem abx_pure {β : Type} {B C : Nat} (q : β → Prop) : AbX B C (fun s (_ : World) => q s) := fun _ _ _ _ hs _ _ => hs
theorem RdZ.rdt {w : World} {v : Value} {p : List Int} (h : RdZ w v p) (T : Nat → Prop) (hT : ∀ b, b < w.heap.size → ¬ T b) : RdT T w v p := by
  obtain ⟨ao, cap, rfl, h2⟩ := h
  refine ⟨ao, cap, rfl, fun hz => ?_⟩
  obtain ⟨b, off, rfl, h3, h4⟩ := h2 hz
  exact ⟨b, off, rfl, h3, hT b h3, h4⟩
set_option maxHeartbeats 1000000 in
theorem leastPlaces_in (F : Fence) (n : Nat) (h5 : F.fn 29) (hro : F.round = none) (ao : Option Addr) (m c : Nat) (w : World) :
    CallsIn F n Tryd.prog 29 #[.slice ao m c] w fun e w' => e = .returned (.func (.func 37) #[] #[.pointer (some ⟨w.heap.size, 0, none⟩)]) ∧ w' = w.alloc (.cells #[.slice ao m c] 22) := by
  refine callsIn_of_wp Tryd.func29 rfl h5 ?_ hro
  simp only [Tryd.ntmps29, List.size_toArray, List.length_cons, List.length_nil, Nat.reduceAdd, Nat.reduceSub, Array.replicate_succ, Array.replicate_zero, List.push_toArray, List.append_toArray, List.nil_append, List.cons_append]
  gi_wp2
  go_ret
  exact ⟨rfl, rfl⟩
theorem lp_stops (n : Nat) (hn : 1 ≤ n) (Bp B m : Nat) (T : Nat → Prop) (p : List Int) (v : Value) (w : World) (hok : Pm.Ok p) (hm : p.length = m) (hml : m ≤ 1048576) (hTB : ¬ T B) (hTp : ¬ T Bp) (hBl : Bp < B) (hBw : Bp < w.heap.size)
    (hc : w.cell? ⟨Bp, 0, none⟩ = some v) (hR : RdT T w v p) :
    SeqX Fence.wide n Tryd.prog 37 #[.pointer (some ⟨Bp, 0, none⟩)] (fun x : Nat => #[Value.int .i64 (x : Int)]) B B T (fun _ W0 W1 => W0 = W1) (fun pre x => pre ++ [x] <+: Pm.lp p m) (fun ys => ys = Pm.lp p m) (fun pre => pre <+: Pm.lp p m) w :=
  fun l J Jx W hW hB hJ _ hY h0 => lp_in Fence.wide n trivial rfl hn l Bp B m T p v hok hm hml hTB hTp J Jx hJ hY W hB hBl ((hW.cell (p := ⟨Bp, 0, none⟩) hBw).trans hc) (hR.below hW) h0
/-- a sign: so many places and cycles -/
def sgf (m j : Nat) : Int := if (m + j) % 2 = 0 then 1 else -1
theorem sgf_succ (m j : Nat) : sgf m (j + 1) = - sgf m j := by
  unfold sgf
  by_cases h : (m + j) % 2 = 0
  · rw [if_pos h, if_neg (by omega)]
  · rw [if_neg h, if_pos (by omega)]; rfl
theorem sgf_b (m j : Nat) : -1 ≤ sgf m j ∧ sgf m j ≤ 1 := by unfold sgf; split <;> omega
/-- Sign's answer -/
def sgV (p : List Int) : Int := if ckB p then sgf p.length (Pm.lp p p.length).length else 0
theorem ckB_Ok {p : List Int} (h : ckB p = true) : Pm.Ok p := ckB_iff.1 h
set_option maxRecDepth 100000 in
set_option maxHeartbeats 4000000 in
theorem pSign_in (v : Value) (p : List Int) (w : World) (al : List Addr) (he : ErP w al) (hR : RdZ w v p) (hn : p.length ≤ 1048576) :
    CallsIn Fence.wide 5 Tryd.prog 16 #[v] w fun e w' => e = .returned (.tuple #[.int .i64 (sgV p), er al (ckN p)]) ∧ Below w.heap.size w w' := by
  have hRH : Hid (RdZ w v p) := hR
  have heH : Hid (ErP w al) := he
  obtain ⟨ao, cap, rfl, hrd⟩ := hR
  clear hrd he
  refine callsIn_of_wp_marks Tryd.func16 rfl trivial ?_ rfl
  simp only [Tryd.ntmps16, List.size_toArray, List.length_cons, List.length_nil, Nat.reduceAdd, Nat.reduceSub, Array.replicate_succ, Array.replicate_zero, List.push_toArray, List.append_toArray, List.nil_append, List.cons_append]
  gi_wp2_with fail
  refine ⟨trivial, (callsIn_wide.2 (pCheck_c _ p w al heH.out hRH.out (by omega))).mono ?_⟩
  rintro e w1 ⟨rfl, b1⟩
  have B1 : Hid (Below w.heap.size w w1) := b1
  clear b1
  cases hck : ckB p
  · have hf : Hid (sgV p = 0 ∧ er al (ckN p) = ek al 11) := (⟨by unfold sgV; rw [if_neg (by rw [hck]; decide)], by rw [ckN_false hck]; rfl⟩ : sgV p = 0 ∧ er al (ckN p) = ek al 11)
    rw [ckN_false hck, show er al 12 = ek al 11 from rfl]
    have n1 := nnil_c al 11
    have g1 := guard_c al 11
    clear hck
    gi_wp2
    exact ⟨_, results_tmp2 rfl _ _ _, by rw [hf.out.1, hf.out.2]; rfl, B1.out⟩
  · have hok : Hid (Pm.Ok p) := ckB_Ok hck
    have hf : Hid (sgV p = sgf p.length (Pm.lp p p.length).length ∧ er al (ckN p) = .nilIface) := (⟨by unfold sgV; rw [if_pos hck], by rw [ckN_true hck]; rfl⟩ : sgV p = sgf p.length (Pm.lp p p.length).length ∧ er al (ckN p) = .nilIface)
    rw [ckN_true hck, show er al 0 = Value.nilIface from rfl]
    clear hck
    by_cases hodd : p.length % 2 = 1
    · have d1 : ((p.length : Int) % 2 == 1) = true := by rw [beq_iff_eq]; omega
      gi_wp2_with fail
      have bS0 : Boxed (w1.alloc (.cells #[.int .i64 (-1)] 3)) w1.heap.size 3 (.int .i64 (sgf p.length 0)) := by
        rw [show sgf p.length 0 = -1 by unfold sgf; first | rw [if_pos (by omega)] | rw [if_neg (by omega)]]
        exact Boxed.new w1 3 (.int .i64 (-1))
      have hb0 : Below w1.heap.size w1 (w1.alloc (.cells #[.int .i64 (-1)] 3)) := by
        exact (Below.refl _ _).alloc (Nat.le_refl _) _
      have hz0 : (w1.alloc (.cells #[.int .i64 (-1)] 3)).heap.size = w1.heap.size + 1 := by simp
      clear d1
      generalize w1.alloc (.cells #[.int .i64 (-1)] 3) = Wa at bS0 hb0 hz0 ⊢
      refine ⟨trivial, (leastPlaces_in _ 4 trivial rfl ao p.length cap Wa).mono ?_⟩
      rintro e w2 ⟨rfl, rfl⟩
      have bS1 := bS0.alloc (.cells #[.slice ao p.length cap] 22)
      have bP1 := Boxed.new Wa 22 (.slice ao p.length cap)
      have hb1 : Below w.heap.size w (Wa.alloc (.cells #[.slice ao p.length cap] 22)) := (B1.out.trans (hb0.mono B1.out.size)).alloc (by have := B1.out.size; omega) _
      have hz1 : (Wa.alloc (.cells #[.slice ao p.length cap] 22)).heap.size = w1.heap.size + 2 := by rw [World.size_alloc, hz0]
      rw [hz0] at bP1 ⊢
      generalize Wa.alloc (.cells #[.slice ao p.length cap] 22) = W0 at bS1 bP1 hb1 hz1 ⊢
      clear bS0 hb0 hz0
      have R0 : Hid (RdT (fun b => b = w1.heap.size) W0 (.slice ao p.length cap) p) := by
        obtain ⟨ao', cap', he', h2⟩ := hRH.out
        refine ⟨ao', cap', he', fun hz => ?_⟩
        obtain ⟨b, off, rfl, h3, h4⟩ := h2 hz
        have hs := B1.out.size
        refine ⟨b, off, rfl, Nat.lt_of_lt_of_le h3 hb1.size, (fun e => by have e' : b = w1.heap.size := e; omega), fun i hi => (hb1.cell (p := ⟨b, off + i, none⟩) h3).trans (h4 i hi)⟩
      have hs1 := B1.out.size
      obtain ⟨s, hs⟩ : ∃ s, w1.heap.size = s := ⟨_, rfl⟩
      have hbH : Hid (Below w.heap.size w W0) := hb1
      have hws : Hid (w.heap.size ≤ s) := (by rw [← hs]; exact hs1 : w.heap.size ≤ s)
      have bPH : Hid (Boxed W0 (s + 1) 22 (.slice ao p.length cap)) := (by rw [← hs]; exact bP1 : Boxed W0 (s + 1) 22 (.slice ao p.length cap))
      have bSH : Hid (Boxed W0 s 3 (.int .i64 (sgf p.length 0))) := (by rw [← hs]; exact bS1 : Boxed W0 s 3 (.int .i64 (sgf p.length 0)))
      have hz2 : Hid (W0.heap.size = s + 2) := (by rw [← hs]; exact hz1 : W0.heap.size = s + 2)
      rw [hs] at R0 ⊢
      clear bS1 bP1 hb1 hz1 hs1 B1
      clear hs
      gi_wp2_with fail
      refine' range_own rfl (by decide) (gf := 37) (lb := #[.pointer (some ⟨s + 1, 0, none⟩)]) rfl trivial (enters_of Tryd.func37 (by kernel_rfl) rfl)
        (lp_stops 4 (by decide) (s + 1) (W0.heap.size + 2) p.length (fun b => b = s) p (.slice ao p.length cap) W0 hok.out rfl hn (by have := hz2.out; show ¬ _ = _; omega) (by show ¬ _ = _; omega) (by have := hz2.out; omega) (by have := hz2.out; omega) bPH.out.cell R0.out) (Below.refl _ _) (fun _ => rfl)
        (Nat.le_refl _) (fun b h1 h2 e => by have := hz2.out; have e' : b = s := e; omega) (fun _ W0 W1 l o h _ => by rw [h]) (fun _ W0 W1 l h _ => by rw [h])
        (fun pre W => Boxed W s 3 (.int .i64 (sgf p.length pre.length)) ∧ Below w.heap.size w W)
        (fun _ _ _ => False)
        (AbX.and (abx_boxed (fun pre : List Nat => .int .i64 (sgf p.length pre.length)) (by have := hz2.out; omega)) (abx_below (by have := hz2.out; have := hws.out; omega) (Nat.le_refl _)))
        (fun _ => abx_pure _) ⟨bSH.out, hbH.out⟩ _ ?assign ?body ?done ?stop
      case assign =>
        intro l x W K hK
        gi_wp2
        exact hK
      case body =>
        rintro l pre x Wx W ⟨hbx, hBx⟩ hC rfl hp
        have hc := hbx.cell
        have hfz := hbx.frozen
        obtain ⟨z, hz⟩ : ∃ z, sgf p.length pre.length = z := ⟨_, rfl⟩
        have hzb := sgf_b p.length pre.length
        have hz9 : Hid (sgf p.length (pre ++ [x]).length = -z) := (by rw [List.length_append, List.length_singleton, sgf_succ, hz] : sgf p.length (pre ++ [x]).length = -z)
        rw [hz] at hc hzb
        have hbxH : Hid (Boxed Wx s 3 (.int .i64 z)) := (by rw [← hz]; exact hbx : Boxed Wx s 3 (.int .i64 z))
        have hBH : Hid (Below w.heap.size w Wx) := hBx
        clear hbx hBx hz
        gi_wp2
        refine ⟨KT.grown (grownBy_setCell' Wx s _) (fun b e => by cases e; rfl), ?_, hBH.out.setCell (p := ⟨s, 0, none⟩) hws.out _⟩
        have h9 := hbxH.out.set (.int .i64 (-z))
        rw [hz9.out]
        simpa using h9
      case done =>
        rintro xs W rfl ⟨hbx, hBx⟩ hK
        have hc := hbx.cell
        have hfin : Hid (sgf p.length (Pm.lp p p.length).length = sgV p) := hf.out.1.symm
        obtain ⟨z, hz⟩ : ∃ z, sgf p.length (Pm.lp p p.length).length = z := ⟨_, rfl⟩
        rw [hz] at hc hfin
        clear hbx hz
        gi_wp2
        refine ⟨by simp, .inl ⟨_, _, rfl, run_takeDeferred hK, _, results_tmp2 rfl _ _ _, ?_, ?_⟩⟩
        · rw [← hfin.out, hf.out.2]; rfl
        · exact hBx.trans (belowK_b (w := w) (Nat.le_refl _) _ _ _ _ (by have := hz2.out; have := hws.out; omega) hK rfl rfl)
      case stop =>
        rintro c pre W _ h _
        exact h.elim
    · have d1 : ((p.length : Int) % 2 == 1) = false := beq_eq_false_iff_ne.2 (by omega)
      gi_wp2_with fail
      have bS0 : Boxed (w1.alloc (.cells #[.int .i64 1] 3)) w1.heap.size 3 (.int .i64 (sgf p.length 0)) := by
        rw [show sgf p.length 0 = 1 by unfold sgf; first | rw [if_pos (by omega)] | rw [if_neg (by omega)]]
        exact Boxed.new w1 3 (.int .i64 1)
      have hb0 : Below w1.heap.size w1 (w1.alloc (.cells #[.int .i64 1] 3)) := by
        exact (Below.refl _ _).alloc (Nat.le_refl _) _
      have hz0 : (w1.alloc (.cells #[.int .i64 1] 3)).heap.size = w1.heap.size + 1 := by simp
      clear d1
      generalize w1.alloc (.cells #[.int .i64 1] 3) = Wa at bS0 hb0 hz0 ⊢
      refine ⟨trivial, (leastPlaces_in _ 4 trivial rfl ao p.length cap Wa).mono ?_⟩
      rintro e w2 ⟨rfl, rfl⟩
      have bS1 := bS0.alloc (.cells #[.slice ao p.length cap] 22)
      have bP1 := Boxed.new Wa 22 (.slice ao p.length cap)
      have hb1 : Below w.heap.size w (Wa.alloc (.cells #[.slice ao p.length cap] 22)) := (B1.out.trans (hb0.mono B1.out.size)).alloc (by have := B1.out.size; omega) _
      have hz1 : (Wa.alloc (.cells #[.slice ao p.length cap] 22)).heap.size = w1.heap.size + 2 := by rw [World.size_alloc, hz0]
      rw [hz0] at bP1 ⊢
      generalize Wa.alloc (.cells #[.slice ao p.length cap] 22) = W0 at bS1 bP1 hb1 hz1 ⊢
      clear bS0 hb0 hz0
      have R0 : Hid (RdT (fun b => b = w1.heap.size) W0 (.slice ao p.length cap) p) := by
        obtain ⟨ao', cap', he', h2⟩ := hRH.out
        refine ⟨ao', cap', he', fun hz => ?_⟩
        obtain ⟨b, off, rfl, h3, h4⟩ := h2 hz
        have hs := B1.out.size
        refine ⟨b, off, rfl, Nat.lt_of_lt_of_le h3 hb1.size, (fun e => by have e' : b = w1.heap.size := e; omega), fun i hi => (hb1.cell (p := ⟨b, off + i, none⟩) h3).trans (h4 i hi)⟩
      have hs1 := B1.out.size
      obtain ⟨s, hs⟩ : ∃ s, w1.heap.size = s := ⟨_, rfl⟩
      have hbH : Hid (Below w.heap.size w W0) := hb1
      have hws : Hid (w.heap.size ≤ s) := (by rw [← hs]; exact hs1 : w.heap.size ≤ s)
      have bPH : Hid (Boxed W0 (s + 1) 22 (.slice ao p.length cap)) := (by rw [← hs]; exact bP1 : Boxed W0 (s + 1) 22 (.slice ao p.length cap))
      have bSH : Hid (Boxed W0 s 3 (.int .i64 (sgf p.length 0))) := (by rw [← hs]; exact bS1 : Boxed W0 s 3 (.int .i64 (sgf p.length 0)))
      have hz2 : Hid (W0.heap.size = s + 2) := (by rw [← hs]; exact hz1 : W0.heap.size = s + 2)
      rw [hs] at R0 ⊢
      clear bS1 bP1 hb1 hz1 hs1 B1
      clear hs
      gi_wp2_with fail
      refine' range_own rfl (by decide) (gf := 37) (lb := #[.pointer (some ⟨s + 1, 0, none⟩)]) rfl trivial (enters_of Tryd.func37 (by kernel_rfl) rfl)
        (lp_stops 4 (by decide) (s + 1) (W0.heap.size + 2) p.length (fun b => b = s) p (.slice ao p.length cap) W0 hok.out rfl hn (by have := hz2.out; show ¬ _ = _; omega) (by show ¬ _ = _; omega) (by have := hz2.out; omega) (by have := hz2.out; omega) bPH.out.cell R0.out) (Below.refl _ _) (fun _ => rfl)
        (Nat.le_refl _) (fun b h1 h2 e => by have := hz2.out; have e' : b = s := e; omega) (fun _ W0 W1 l o h _ => by rw [h]) (fun _ W0 W1 l h _ => by rw [h])
        (fun pre W => Boxed W s 3 (.int .i64 (sgf p.length pre.length)) ∧ Below w.heap.size w W)
        (fun _ _ _ => False)
        (AbX.and (abx_boxed (fun pre : List Nat => .int .i64 (sgf p.length pre.length)) (by have := hz2.out; omega)) (abx_below (by have := hz2.out; have := hws.out; omega) (Nat.le_refl _)))
        (fun _ => abx_pure _) ⟨bSH.out, hbH.out⟩ _ ?assign ?body ?done ?stop
      case assign =>
        intro l x W K hK
        gi_wp2
        exact hK
      case body =>
        rintro l pre x Wx W ⟨hbx, hBx⟩ hC rfl hp
        have hc := hbx.cell
        have hfz := hbx.frozen
        obtain ⟨z, hz⟩ : ∃ z, sgf p.length pre.length = z := ⟨_, rfl⟩
        have hzb := sgf_b p.length pre.length
        have hz9 : Hid (sgf p.length (pre ++ [x]).length = -z) := (by rw [List.length_append, List.length_singleton, sgf_succ, hz] : sgf p.length (pre ++ [x]).length = -z)
        rw [hz] at hc hzb
        have hbxH : Hid (Boxed Wx s 3 (.int .i64 z)) := (by rw [← hz]; exact hbx : Boxed Wx s 3 (.int .i64 z))
        have hBH : Hid (Below w.heap.size w Wx) := hBx
        clear hbx hBx hz
        gi_wp2
        refine ⟨KT.grown (grownBy_setCell' Wx s _) (fun b e => by cases e; rfl), ?_, hBH.out.setCell (p := ⟨s, 0, none⟩) hws.out _⟩
        have h9 := hbxH.out.set (.int .i64 (-z))
        rw [hz9.out]
        simpa using h9
      case done =>
        rintro xs W rfl ⟨hbx, hBx⟩ hK
        have hc := hbx.cell
        have hfin : Hid (sgf p.length (Pm.lp p p.length).length = sgV p) := hf.out.1.symm
        obtain ⟨z, hz⟩ : ∃ z, sgf p.length (Pm.lp p p.length).length = z := ⟨_, rfl⟩
        rw [hz] at hc hfin
        clear hbx hz
        gi_wp2
        refine ⟨by simp, .inl ⟨_, _, rfl, run_takeDeferred hK, _, results_tmp2 rfl _ _ _, ?_, ?_⟩⟩
        · rw [← hfin.out, hf.out.2]; rfl
        · exact hBx.trans (belowK_b (w := w) (Nat.le_refl _) _ _ _ _ (by have := hz2.out; have := hws.out; omega) hK rfl rfl)
      case stop =>
        rintro c pre W _ h _
        exact h.elim
end Go.Proofs.YtbhhbnhoknlonaaDoor
