/-
  The contract of what package perm's Cycles hands back: it goes over the cycles, each a new list.
-/
import Derived.Test.YtbhhbnhoknlonaaDoorCr6
namespace Go.Proofs.YtbhhbnhoknlonaaDoor
open Flo Go.RowKit Go.Shelf
attribute [local go_sem] Oper.semAt_some

/-- a cycle is handed over: a new list -/
def CyR (p : List Int) (x : Value × Nat) (W0 W1 : World) : Prop := Below W0.heap.size W0 W1 ∧ W1.ownsRow W0.heap.size 3 1 x.1 (Pm.per p x.2) (fl (Pm.it p x.2) (Pm.per p x.2))
def CyP (p : List Int) (m : Nat) (pre : List (Value × Nat)) (x : Value × Nat) : Prop := pre.map (·.2) ++ [x.2] <+: Pm.lp p m
theorem CyR.put {p : List Int} (x : Value × Nat) (W0 W1 : World) (l : Nat) (o : Obj) (h : CyR p x W0 W1) (hl : l < W0.heap.size) : CyR p x (W0.putObj l o) (W1.putObj l o) := by
  obtain ⟨hb, ho⟩ := h
  refine ⟨⟨hb.os, hb.tape, hb.output, by rw [putObj_size, putObj_size]; exact hb.size, fun k hk => ?_⟩, ?_⟩
  · rw [putObj_size] at hk
    by_cases e : k = l
    · subst e
      rw [World.putObj_heap_same hl, World.putObj_heap_same (Nat.lt_of_lt_of_le hl hb.size)]
    · rw [World.putObj_heap_other e, World.putObj_heap_other e]; exact hb.block k hk
  · rw [putObj_size]
    refine ⟨ho.1, ?_⟩
    rcases ho.2 with h1 | ⟨g, cap, cur, h0, h1, h2, h3⟩
    · exact .inl h1
    · exact .inr ⟨g, cap, cur, h0, h1, by rw [World.putObj_heap_other (by omega)]; exact h2, h3⟩
theorem CyR.old {p : List Int} (x : Value × Nat) (W0 W1 : World) (l : Nat) (h : CyR p x W0 W1) (hl : l < W0.heap.size) : W1.heap[l]? = W0.heap[l]? := h.1.block l hl
set_option maxRecDepth 100000 in
set_option maxHeartbeats 4000000 in
theorem cy2_stops (n : Nat) (hn : 4 ≤ n) (Bo B m : Nat) (T : Nat → Prop) (p : List Int) (g : Nat) (w : World) (hok : Pm.Ok p) (hm : p.length = m) (hml : m ≤ 1048576) (hTB : ∀ b, B ≤ b → b ≤ B + 4 → ¬ T b) (hTo : ¬ T Bo) (hTg : ¬ T g) (hBl : Bo < w.heap.size) (hgl : g < w.heap.size) (hwB : w.heap.size ≤ B)
    (hc : Boxed w Bo 22 (.slice (some ⟨g, 0, none⟩) m m)) (ho : w.ownsRow 0 3 1 (.slice (some ⟨g, 0, none⟩) m m) m (iz p)) :
    SeqX Fence.wide n Tryd.prog 34 #[.pointer (some ⟨Bo, 0, none⟩)] (fun x : Value × Nat => #[x.1]) B (B + 4) T (CyR p) (CyP p m) (fun ys => ys.map (·.2) = Pm.lp p m) (fun pre => pre.map (·.2) <+: Pm.lp p m) w := by
  intro l J Jx W hW hB hJ0 hJx0 hY0 h0
  have hokH : Hid (Pm.Ok p) := hok
  have hJ : Hid (AbX B (B + 4) J) := hJ0
  have hJx : Hid (AbX B (B + 4) Jx) := hJx0
  have hY : Hid (∀ pre x W0 W1, J pre W0 → B + 4 < W0.heap.size → CyR p x W0 W1 → CyP p m pre x → YieldAt Fence.wide (n - 1) Tryd.prog l #[x.1] W1 fun e W' =>
      (e = .returned (.bool true) ∧ J (pre ++ [x]) W' ∧ KT T W1 W') ∨ (e = .returned (.bool false) ∧ Jx (pre ++ [x]) W' ∧ KB B (B + 4) W1 W')) := hY0
  have hTBH : Hid (∀ b, B ≤ b → b ≤ B + 4 → ¬ T b) := hTB
  have bO : Boxed W Bo 22 (.slice (some ⟨g, 0, none⟩) m m) := (hW.block Bo hBl).trans hc
  have hR : RdZ W (.slice (some ⟨g, 0, none⟩) m m) p := by
    have h9 : w.ownsRow 0 3 1 (.slice (some ⟨g, 0, none⟩) m m) p.length (iz p) := by rw [hm]; exact ho
    exact (RdZ.of_own h9).below hW
  have bO1 := bO.alloc (.cells #[.func (.yield l) #[] #[]] 47)
  have bY1 := Boxed.new W 47 (.func (.yield l) #[] #[])
  have hR1 := hR.below ((Below.refl _ W).alloc (Nat.le_refl _) (.cells #[.func (.yield l) #[] #[]] 47))
  have hJ1 : J [] (W.alloc (.cells #[.func (.yield l) #[] #[]] 47)) := hJ0.alloc h0 _
  have hz1 : (W.alloc (.cells #[.func (.yield l) #[] #[]] 47)).heap.size = B + 1 := by rw [World.size_alloc, hB]
  have cO := bO1.cell
  rw [hB] at bY1
  clear hJ0 hJx0 hY0 hTB hW hc ho bO hR h0 hok
  refine callsIn_of_wp_marks Tryd.func34 rfl trivial ?_ rfl
  simp only [Tryd.ntmps34, List.size_toArray, List.length_cons, List.length_nil, Nat.reduceAdd, Nat.reduceSub, Array.replicate_succ, Array.replicate_zero, List.push_toArray, List.append_toArray, List.nil_append, List.cons_append]
  gi_wp2_with fail
  generalize W.alloc (.cells #[.func (.yield l) #[] #[]] 47) = W1 at bO1 bY1 hR1 hJ1 hz1 cO ⊢
  refine ⟨trivial, fun h => (by cases h), (leastPlaces_in _ _ trivial rfl (some ⟨g, 0, none⟩) m m W1).mono ?_⟩
  rintro e w2 ⟨rfl, rfl⟩
  clear cO
  have bO2 := bO1.alloc (.cells #[.slice (some ⟨g, 0, none⟩) m m] 22)
  have bY2 := bY1.alloc (.cells #[.slice (some ⟨g, 0, none⟩) m m] 22)
  have bP2 := Boxed.new W1 22 (.slice (some ⟨g, 0, none⟩) m m)
  have hR2 := hR1.below ((Below.refl _ W1).alloc (Nat.le_refl _) (.cells #[.slice (some ⟨g, 0, none⟩) m m] 22))
  have hJ2 : J [] (W1.alloc (.cells #[.slice (some ⟨g, 0, none⟩) m m] 22)) := hJ.out.alloc hJ1 _
  have hz2 : (W1.alloc (.cells #[.slice (some ⟨g, 0, none⟩) m m] 22)).heap.size = B + 2 := by rw [World.size_alloc, hz1]
  rw [hz1] at bP2 ⊢
  clear bO1 bY1 hR1 hJ1 hz1 hB
  generalize W1.alloc (.cells #[.slice (some ⟨g, 0, none⟩) m m] 22) = W2 at bO2 bY2 bP2 hR2 hJ2 hz2 ⊢
  have bO : Hid (Boxed W2 Bo 22 (.slice (some ⟨g, 0, none⟩) m m)) := bO2
  have bY : Hid (Boxed W2 B 47 (.func (.yield l) #[] #[])) := bY2
  have bP : Hid (Boxed W2 (B + 1) 22 (.slice (some ⟨g, 0, none⟩) m m)) := bP2
  have hJ2H : Hid (J [] W2) := hJ2
  have hzH : Hid (W2.heap.size = B + 2) := hz2
  have hRT : Hid (RdT T W2 (.slice (some ⟨g, 0, none⟩) m m) p) := by
    obtain ⟨ao, cap, he, h2⟩ := hR2
    have hea : ao = some ⟨g, 0, none⟩ := by cases he; rfl
    refine ⟨ao, cap, he, fun hz => ?_⟩
    obtain ⟨b, off, h1, h3, h4⟩ := h2 hz
    have hbg : b = g := by rw [hea] at h1; cases h1; rfl
    exact ⟨b, off, h1, h3, by rw [hbg]; exact hTg, h4⟩
  have hmH : Hid (p.length = m) := hm
  have hwBH : Hid (Bo < B ∧ g < B) := ⟨by omega, by omega⟩
  clear bO2 bY2 bP2 hR2 hJ2 hz2 hm hBl hgl hwB
  gi_wp2_with fail
  have hT4 : Hid (¬ T (B + 4)) := hTBH.out _ (by omega) (by omega)
  refine' range_own (C := B + 4) rfl (by omega) (gf := 37) (lb := #[.pointer (some ⟨B + 1, 0, none⟩)]) rfl trivial (enters_of Tryd.func37 (by kernel_rfl) rfl)
    (by rw [hzH.out]; exact lp_stops (n - 1) (by omega) (B + 1) (B + 4) m T p (.slice (some ⟨g, 0, none⟩) m m) W2 hokH.out hmH.out hml hT4.out (hTBH.out _ (by omega) (by omega)) (by omega) (by have := hzH.out; omega) bP.out.cell hRT.out) (Below.refl _ _) (fun _ => rfl)
    (by rw [hzH.out]; exact Nat.le_refl _) (fun b h1 h2 => by have := hzH.out; exact hTBH.out b (by omega) h2) (fun _ W0 W1 l o h _ => by rw [h]) (fun _ W0 W1 l h _ => by rw [h])
    (fun pre V => (∃ ys : List (Value × Nat), ys.map (·.2) = pre ∧ J ys V) ∧ KT T W2 V)
    (fun c pre V => c = Code.ret ∧ ∃ ys : List (Value × Nat), ys.map (·.2) = pre ∧ Jx ys V) ?ab ?abx ⟨⟨[], rfl, hJ2H.out⟩, KT.refl _ _⟩ _ ?assign ?body ?done ?stop
  case ab =>
    refine AbX.and ?_ (abx_kt (Nat.le_refl _))
    rintro pre X Y row ⟨ys, h1, h2⟩ hg hr
    exact ⟨ys, h1, hJ.out _ _ _ row h2 hg fun r e => by have := hr r e; have := hzH.out; omega⟩
  case abx =>
    rintro c pre X Y row ⟨hc, ys, h1, h2⟩ hg hr
    exact ⟨hc, ys, h1, hJx.out _ _ _ row h2 hg fun r e => by have := hr r e; have := hzH.out; omega⟩
  case assign =>
    intro l x W K hK
    gi_wp2
    exact hK
  case body =>
    rintro l1 pre x Wx V ⟨⟨ys, hys, hJy⟩, hkt⟩ hC rfl hp
    obtain ⟨hpx, hxm, hsx⟩ := Pm.lp_split hp
    have hxp : Hid (x < p.length) := (by rw [hmH.out]; exact hxm : x < p.length)
    have hpH : Hid (CyP p m ys (Value.nilIface, x)) := (by show ys.map (·.2) ++ [x] <+: Pm.lp p m; rw [hys]; exact hp : CyP p m ys (Value.nilIface, x))
    have hktH : Hid (KT T W2 Wx) := hkt
    have hCH : Hid (B + 4 < Wx.heap.size) := hC
    have hJd : Hid (J ys Wx.drew) := hJ.out ys Wx Wx.drew none hJy ⟨rfl, rfl, rfl, Nat.le_refl _, fun _ _ _ => rfl⟩ (fun _ e => by cases e)
    have cY := (hkt.boxed bY.out (hTBH.out _ (by omega) (by omega))).cell
    have cO := (hkt.boxed bO.out hTo).cell
    have hRx : Hid (RdZ Wx.drew (.slice (some ⟨g, 0, none⟩) m m) p) := (hRT.out.kt hkt).rd
    have hysH : Hid (ys.map (·.2) = pre) := hys
    clear hpx hsx hys hJy hkt hp hC hxm
    gi_wp2
    refine cy_reg (Z := fun v W1 => CyR p (v, x) Wx.drew W1) (V1 := fun v W' => J (ys ++ [(v, x)]) W' ∧ KT T Wx W') (V2 := fun v W' => Jx (ys ++ [(v, x)]) W' ∧ KB (B + 2) (B + 4) Wx W') cY cO (by have := hCH.out; omega) ?hc ?hy ?hq
    case hc =>
      refine (cycleFrom_c _ p x Wx.drew hokH.out hRx.out hxp.out (by rw [hmH.out]; exact hml)).mono ?_
      rintro e W1 ⟨v, rfl, ho, hb⟩
      exact ⟨v, rfl, hb, hb, ho⟩
    case hy =>
      intro v W1 hR
      have h9 := yield_any (F := Fence.wide) rfl (n - 1 - 1 - 1) (hY.out ys (v, x) Wx.drew W1 hJd.out hCH.out hR hpH.out)
      refine h9.mono ?_
      rintro e W' (⟨rfl, h1, h2⟩ | ⟨rfl, h1, h2⟩)
      · refine .inl ⟨rfl, h1, ?_⟩
        exact ⟨h2.os.trans hR.1.os, h2.tape.trans hR.1.tape, h2.output.trans hR.1.output, Nat.le_trans hR.1.size h2.size, fun b hb hT => (h2.block b (Nat.lt_of_lt_of_le hb hR.1.size) hT).trans (hR.1.block b hb)⟩
      · refine .inr ⟨rfl, h1, fun b hb1 hb2 hb3 => ?_⟩
        exact (h2 b (by omega) hb2 (Nat.lt_of_lt_of_le hb3 hR.1.size)).trans (hR.1.block b hb3)
    case hq =>
      rintro v b W' (⟨rfl, h1, h2⟩ | ⟨rfl, h1, h2⟩)
      · have h1H : Hid (J (ys ++ [(v, x)]) W') := h1
        have h2H : Hid (KT T Wx W') := h2
        clear h1 h2 cY cO
        simp only [Exit.then]
        rename_i hKK
        refine hKK _ _ ?_
        clear hKK
        gi_wp2
        exact ⟨h2H.out, ⟨ys ++ [(v, x)], by rw [List.map_append, hysH.out]; rfl, h1H.out⟩, hktH.out.trans h2H.out⟩
      · have h1H : Hid (Jx (ys ++ [(v, x)]) W') := h1
        have h2H : Hid (KB (B + 2) (B + 4) Wx W') := h2
        clear h1 h2 cY cO
        simp only [Exit.then]
        rename_i hKK
        refine hKK _ _ ?_
        clear hKK
        gi_wp2
        exact ⟨by rw [hzH.out]; exact h2H.out, rfl, ys ++ [(v, x)], by rw [List.map_append, hysH.out]; rfl, h1H.out⟩
  case done =>
    rintro xs V hS ⟨⟨ys, hys, hJy⟩, hkt⟩ hK
    have hJH : Hid (J ys V) := hJy
    have hyH : Hid (ys.map (·.2) = Pm.lp p m) := (by rw [hys]; exact hS : ys.map (·.2) = Pm.lp p m)
    clear hS hys hJy hkt
    gi_wp2
    refine ⟨by simp, .inl ⟨_, _, rfl, run_takeDeferred hK, _, results_none rfl _ _ _, ⟨_, rfl⟩, .inl ⟨ys, hyH.out, ?_⟩⟩⟩
    exact hJ.out.put hJH.out _ (by have := hzH.out; omega) (by have := hzH.out; omega)
  case stop =>
    rintro c pre V hSp ⟨rfl, ys, hys, hJy⟩ hK
    have hJH : Hid (Jx ys V) := hJy
    have hyH : Hid (ys.map (·.2) <+: Pm.lp p m) := (by rw [hys]; exact hSp : ys.map (·.2) <+: Pm.lp p m)
    clear hSp hys hJy
    gi_wp2
    refine ⟨by simp, .inl ⟨_, _, rfl, run_takeDeferred hK, _, results_none rfl _ _ _, ⟨_, rfl⟩, .inr ⟨ys, hyH.out, ?_⟩⟩⟩
    exact hJx.out.put hJH.out _ (by have := hzH.out; omega) (by have := hzH.out; omega)
end Go.Proofs.YtbhhbnhoknlonaaDoor
