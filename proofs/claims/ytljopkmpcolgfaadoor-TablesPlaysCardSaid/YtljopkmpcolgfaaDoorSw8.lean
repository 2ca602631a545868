/-
  Layer 8: the statements' own 'sizes'.
-/
import Derived.Test.YtljopkmpcolgfaaDoorSz8
import Derived.RangeFuncNested
import Derived.RangeFuncBound
import Derived.RangeFuncCalls
import Derived.RangeFuncLeaves
import Derived.RangeFuncBox
import Derived.Shelf.RegionOpen
import Derived.Maps.AppendAt
namespace Go.Proofs.YtljopkmpcolgfaaDoor
open Flo Go.RowKit Go.Maps Go.Sort Go.Shelf Go.MuLone
attribute [local go_sem] Oper.semAt_some
theorem ownsRow_low {w : World} {base base' : Nat} {e : TypeId} {size : Nat} {v : Value} {n : Nat} {xs : List Value} (h : w.ownsRow base e size v n xs) (hb : base' ≤ base) : w.ownsRow base' e size v n xs := own_base h hb
theorem ownsRow_sl {W : World} {base : Nat} {e : TypeId} {size : Nat} {v : Value} {k : Nat} {xs : List Value} (h : W.ownsRow base e size v k xs) : ∃ ao m c, v = .slice ao m c := by
  rcases h.2 with ⟨rfl, _⟩ | ⟨g, cap, _, rfl, _⟩
  · exact ⟨_, _, _, rfl⟩
  · exact ⟨_, _, _, rfl⟩
theorem seq8_nil (lb : Array Value) (w : World) : (binOp .eql 55 (.func (.func 47) #[] lb) .nilFunc).run Tryd.prog w = .ok (.bool false) w := by kernel_rfl
section
variable {F : Nat → Prop} {w : World} {t bm made : Nat} {ks : List Nat}
set_option maxRecDepth 100000 in
set_option maxHeartbeats 8000000 in
theorem sizes_in (h : TB F w t bm ks made) :
    CallsIn Fence.wide 3 Tryd.prog 21 #[.pointer (some ⟨t, 0, none⟩)] w fun e W' => ∃ v, e = .returned (.tuple #[v, .bool true]) ∧ W'.ownsRow w.heap.size 3 1 v ks.length (il ks) ∧ TB F W' t bm ks made ∧ Fr (tb t bm) w W' := by
  have hro : Fence.wide.round = none := rfl
  have h1 : 1 ≤ 3 := by decide
  have hfew := h.few
  have h' : Hid (TB (fun k => F k ∧ k < w.heap.size) w t bm ks made) := h.to fun k hk hF => ⟨hF, hk⟩
  obtain ⟨i0, hi, hz0, hz1, hz2⟩ := info_parts infoInt
  clear h
  refine callsIn_of_wp_marks Tryd.func21 rfl trivial ?_ hro
  simp only [Tryd.ntmps21, List.size_toArray, List.length_cons, List.length_nil, Nat.reduceAdd, Nat.reduceSub, Array.replicate_succ, Array.replicate_zero, List.push_toArray, List.append_toArray, List.nil_append, List.cons_append]
  gi_wp2_with fail
  have hb2 : Below w.heap.size w ((w.alloc (.cells #[.slice none 0 0] 28)).alloc (.cells #[.bool false] 4)) := ((Below.refl _ w).alloc (Nat.le_refl _) _).alloc (by simp) _
  have bR := Boxed.new w 28 (.slice none 0 0)
  have bT := Boxed.new (w.alloc (.cells #[.slice none 0 0] 28)) 4 (.bool false)
  rw [World.size_alloc] at bT
  have bR2 := bR.alloc (.cells #[.bool false] 4)
  refine ⟨trivial, (callsIn_wide.2 (sizesIt_c (h'.out.below hb2))).mono ?_⟩
  rintro e W1 ⟨Bs, rfl, T1, F1, I1⟩
  have htl : t < w.heap.size := h'.out.lt
  have hbl : bm < w.heap.size := h'.out.blt
  have nR : ¬ tb t bm w.heap.size := by rintro (e | e) <;> omega
  have nT : ¬ tb t bm (w.heap.size + 1) := by rintro (e | e) <;> omega
  have T1' : Hid (TB (fun k => F k ∧ k < w.heap.size) W1 t bm ks made) := T1
  have F1' : Hid (Fr (tb t bm) w W1) := (((Fr.refl _ w).alloc _).alloc _).then F1
  have sz1 : w.heap.size + 2 ≤ W1.heap.size := by have := F1.size; simp at this; omega
  have cR : Hid (W1.cell? ⟨w.heap.size, 0, none⟩ = some (.slice none 0 0)) := F1.cell bR2.cell nR
  have fR : Hid (W1.frozen? ⟨w.heap.size, 0, none⟩ = false) := (F1.frozen (p := ⟨w.heap.size, 0, none⟩) (by simp; omega) nR).trans bR2.frozen
  have cT : Hid (W1.cell? ⟨w.heap.size + 1, 0, none⟩ = some (.bool false)) := F1.cell bT.cell nT
  have fT : Hid (W1.frozen? ⟨w.heap.size + 1, 0, none⟩ = false) := (F1.frozen (p := ⟨w.heap.size + 1, 0, none⟩) (by simp) nT).trans bT.frozen
  have bW : Below W1.heap.size W1 (W1.alloc (.cells #[.slice none 0 0] 28)) := (Below.refl _ _).alloc (Nat.le_refl _) _
  obtain ⟨sv, hsv, hIn⟩ := I1.ints
  have hsv' : Hid ((W1.alloc (.cells #[.slice none 0 0] 28)).cell? ⟨Bs, 0, none⟩ = some sv) := (bW.cell (p := ⟨Bs, 0, none⟩) I1.lt).trans hsv
  have hIn' : Hid (Ints (· < W1.heap.size) (W1.alloc (.cells #[.slice none 0 0] 28)) sv ks) := (by
    rcases hIn with h | ⟨b, cap, hz, e, hb, hc⟩
    · exact .inl h
    · exact .inr ⟨b, cap, hz, e, hb, fun j hj => (bW.cell (p := ⟨b, j, none⟩) hb).trans (hc j hj)⟩ : Ints (· < W1.heap.size) (W1.alloc (.cells #[.slice none 0 0] 28)) sv ks)
  have hBs : Hid (Bs < W1.heap.size) := I1.lt
  have bL := Boxed.new W1 28 (.slice none 0 0)
  have bWH : Hid (Below W1.heap.size W1 (W1.alloc (.cells #[.slice none 0 0] 28))) := bW
  have szW : (W1.alloc (.cells #[.slice none 0 0] 28)).heap.size = W1.heap.size + 1 := by simp
  have hnil := seq8_nil #[.pointer (some ⟨Bs, 0, none⟩)]
  clear T1 F1 I1 hsv hIn bR bT bR2 hb2 bW nR nT
  gi_wp2
  clear hnil
  generalize W1.alloc (.cells #[.slice none 0 0] 28) = W0 at *
  refine' wpIn_rangeFunc_ownG hro h1 (gf := 47) (lb := #[.pointer (some ⟨Bs, 0, none⟩)]) rfl trivial (enters_of Tryd.func47 (by kernel_rfl) rfl)
    (values_stops Fence.wide (3 - 1) trivial hro (by decide) Bs W1.heap.size sv ks hfew W0 (by have := hBs.out; omega) (by omega) hsv'.out hIn'.out) belowK_t (belowK_b (by omega)) (Below.refl _ _) (fun _ => rfl)
    (fun pre W => (∃ v, Boxed W W1.heap.size 28 v ∧ W.ownsRow W1.heap.size 3 1 v pre.length (il pre) ∧ True) ∧ Below W1.heap.size W0 W)
    (fun _ _ _ => False)
    (OwnFrom.and (Own.from (holdsRow_own W1.heap.size W1.heap.size 28 3 1 (fun pre => pre.length) (fun pre => il pre) (fun _ _ => True)) _) (ownFrom_below (by omega) (by omega)))
    (fun _ _ _ _ _ hs _ _ => hs)
    ⟨⟨_, bL, World.ownsRow_nil _ _ _ _, trivial⟩, Below.refl _ _⟩
    _ ?assign ?body ?done ?stop
  case assign =>
    intro l x W K hK
    gi_wp2
    exact hK
  case body =>
    rintro l pre x W ⟨⟨v, hv, hrow, _⟩, hB⟩ hlt
    have hc := hv.cell
    have hsn : Hid (il (pre ++ [x]) = il pre ++ [.int .i64 (x : Int)]) := il_snoc pre x
    have hg : decide (((pre.length + 1 : Nat) : Int) > 16384) = false := decide_eq_false (by omega)
    gi_wp2_with (gi_at_builtin; refine wpListIn_append_own _ rfl _ _ 28 rfl W1.heap.size 3 i0 (.int .i64 0) 1 8 Tryd.underlying28 hi hz0 hz1 hz2 rfl (by decide) _ _ _ rfl (hrow.alloc _) ⟨W.heap.size, 0, none⟩ 1 1 [.int .i64 (x : Int)] rfl rfl (cell_one_new _ _ _) (by simp [Value.oneCell']) (by unfold maxLen; omega) (by omega) (by have := hB.size; simp; omega) ?_; intro v' w1 hown' hgrow _; obtain ⟨g', cap', rfl⟩ := ownsRow_succ hown'; obtain ⟨hv1, hv2, hr2, hk2, hb2⟩ := hv.appended (by decide) hrow (by have := hB.size; omega) (Nat.le_refl _) hown' hgrow; have hc1 := hv1.cell; have hf1 := hv1.frozen; have hc2 := hv2.cell)
    exact ⟨hk2.from _, hb2, ⟨_, hv2, by rw [hsn.out]; simpa using hr2, trivial⟩, hB.trans hb2⟩
  case done =>
    rintro D ys W hD rfl ⟨⟨v, hv, hrow, _⟩, hB⟩ hK
    obtain ⟨ao, m, cp, rfl⟩ := ownsRow_sl hrow
    have hc := hv.cell
    have hB1 : Below W1.heap.size W1 W := bWH.out.trans hB
    have hcR : W.cell? ⟨w.heap.size, 0, none⟩ = some (.slice none 0 0) := (hB1.cell (p := ⟨w.heap.size, 0, none⟩) (show w.heap.size < _ by omega)).trans cR.out
    have hfR : W.frozen? ⟨w.heap.size, 0, none⟩ = false := (hB1.frozen (p := ⟨w.heap.size, 0, none⟩) (show w.heap.size < _ by omega)).trans fR.out
    have hcT : W.cell? ⟨w.heap.size + 1, 0, none⟩ = some (.bool false) := (hB1.cell (p := ⟨w.heap.size + 1, 0, none⟩) (show w.heap.size + 1 < _ by omega)).trans cT.out
    have hfT : W.frozen? ⟨w.heap.size + 1, 0, none⟩ = false := (hB1.frozen (p := ⟨w.heap.size + 1, 0, none⟩) (show w.heap.size + 1 < _ by omega)).trans fT.out
    have hF1 : Hid (Fr (fun k => w.heap.size ≤ k) W1 W) := Fr.of_below hB1 fun k hk _ => by omega
    clear cR fR cT fT bL hsv' hIn' hBs hB hB1 bWH
    gi_wp2
    have hK' := (KeepsOthers.setCell (W.setCell ⟨w.heap.size, 0, none⟩ (.slice ao m cp)) ⟨w.heap.size + 1, 0, none⟩ (.bool true)).same D _ ((KeepsOthers.setCell W ⟨w.heap.size, 0, none⟩ (.slice ao m cp)).same D _ hK rfl) rfl
    refine ⟨by simp, .inl ⟨_, _, rfl, run_takeDeferred hK', ?_⟩⟩
    have e1 : (W.setCell ⟨w.heap.size, 0, none⟩ (.slice ao m cp)).cell? ⟨w.heap.size + 1, 0, none⟩ = some (.bool false) := by
      rw [World.cell?_setCell_other _ _ _ _ (by simp)]; exact hcT
    have e2 : ((W.setCell ⟨w.heap.size, 0, none⟩ (.slice ao m cp)).setCell ⟨w.heap.size + 1, 0, none⟩ (.bool true)).cell? ⟨w.heap.size, 0, none⟩ = some (.slice ao m cp) := by
      rw [World.cell?_setCell_other _ _ _ _ (by simp)]; exact World.cell?_setCell_same' _ _ _ (by rw [hcR]; rfl)
    have e3 : ((W.setCell ⟨w.heap.size, 0, none⟩ (.slice ao m cp)).setCell ⟨w.heap.size + 1, 0, none⟩ (.bool true)).cell? ⟨w.heap.size + 1, 0, none⟩ = some (.bool true) := World.cell?_setCell_same' _ _ _ (by rw [e1]; rfl)
    have hc5 := cell_kept e2 (grownBy_putObj' _ D (.deferred none)) (fun r e => by cases e; exact ⟨_, hK', rfl⟩)
    have hc6 := cell_kept e3 (grownBy_putObj' _ D (.deferred none)) (fun r e => by cases e; exact ⟨_, hK', rfl⟩)
    have hF2 := ((hF1.out.setCell (p := ⟨w.heap.size, 0, none⟩) (Nat.le_refl _) (.slice ao m cp)).setCell (p := ⟨w.heap.size + 1, 0, none⟩) (show w.heap.size ≤ w.heap.size + 1 by omega) (.bool true)).grown (grownBy_putObj' _ D (.deferred none)) (fun k e => by cases e; omega)
    refine ⟨.tuple #[.slice ao m cp, .bool true], ?_, .slice ao m cp, rfl, ?_, ?_, ?_⟩
    · simp [results, Tryd.f21, go_sem, hc5, hc6]
    · exact ownsRow_low (ownsRow_putObj (ownsRow_setCell_below (ownsRow_setCell_below hrow (a := ⟨w.heap.size, 0, none⟩) (show w.heap.size < _ by omega) _) (a := ⟨w.heap.size + 1, 0, none⟩) (show w.heap.size + 1 < _ by omega) _) _ hK' rfl) (by omega)
    · exact (T1'.out.under hF2 fun k _ hk hF => by omega).to fun k _ hk => hk.1
    · exact F1'.out.trans hF2 fun k hk => .inr hk
  case stop =>
    rintro D c pre W _ _ h _
    exact h.elim
theorem sizes_c (h : TB F w t bm ks made) :
    Calls Tryd.prog 21 #[.pointer (some ⟨t, 0, none⟩)] w fun e W' => ∃ v, e = .returned (.tuple #[v, .bool true]) ∧ W'.ownsRow w.heap.size 3 1 v ks.length (il ks) ∧ TB F W' t bm ks made ∧ Fr (tb t bm) w W' :=
  (callsIn_wide (n := 3)).1 (sizes_in h)
end
end Go.Proofs.YtljopkmpcolgfaaDoor
