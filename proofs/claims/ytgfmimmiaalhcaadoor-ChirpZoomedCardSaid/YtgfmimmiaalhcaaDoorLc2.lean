/-
  Layer 13's statements: the fixed facts.
-/
import Derived.Test.YtgfmimmiaalhcaaDoorLc1
import Derived.Test.YtgfmimmiaalhcaaDoorCh3
namespace Go.Proofs.YtgfmimmiaalhcaaDoor
open Flo Go.RowKit
theorem h422 : Hid (4 = 2 * 2) := (rfl : 4 = 2 * 2)
theorem lc1 : chp 4 1 = (0, 13830554455654793216) := by decide +kernel
theorem lc2 : (oul 4 4 2).getD 3 (0, 0) = (0, 4607182418800017408) ∧ (oul 4 4 2).getD 2 (0, 0) = (0, 0) := by decide +kernel
theorem Rw.lit {w : World} {g n : Nat} {us : List (Nat × Nat)} (h : Rw w g n us) {k : Nat} (hk : k < n) {a b : Nat} (hf : us.getD k (0, 0) = (a, b)) : w.cell? ⟨g, k, none⟩ = some (.complex .f64 a b) := by
  have := h.cell hk
  rw [hf] at this
  exact this
set_option maxRecDepth 100000 in
set_option maxHeartbeats 2000000 in
theorem lives13_c (w : World) : Calls Tryd.prog 8 #[] w fun e w' => e = .returned (.bool true) ∧ Below w.heap.size w w' := by
  go_enter Tryd.func8, Tryd.ntmps8
  go_wp2_with fail
  refine (chAtOk_c 2 4 1 w (by decide) (by decide) h422).mono ?_
  rintro e w1 ⟨rfl, B1⟩
  rw [lc1]
  have hB1 : Hid (Below w.heap.size w w1) := B1
  clear B1
  go_wp2_with fail
  refine (chListOk_c 2 4 w1 (by decide) (by decide) h422).mono ?_
  rintro e w2 ⟨g2, us2, rfl, hg2, R2, B2⟩
  have c21 := R2.lit (k := 1) (by decide) lc1 (by decide) (by decide)
  have hB2 : Hid (Below w.heap.size w w2) := below_tr hB1.out B2
  have l2 : Hid (g2 < w2.heap.size) := World.block_lt_of_cell? w2 _ c21
  clear R2 B2 hB1 hg2
  go_wp2_with fail
  refine (otherOk_c 2 4 4 w2 (by decide) (by decide) (by decide) (by decide) h422).mono ?_
  rintro e w3 ⟨g3, rfl, hg3, R3, B3⟩
  have c33 := R3.lit (k := 3) (by decide) lc2.1
  have c32 := R3.lit (k := 2) (by decide) lc2.2
  have d21 := (B3.cell (p := ⟨g2, 1, none⟩) l2.out).trans c21
  have hB3 : Hid (Below w.heap.size w w3) := below_tr hB2.out B3
  have l23 : Hid (g2 < w3.heap.size) := World.block_lt_of_cell? w3 _ d21
  have l3 : Hid (g3 < w3.heap.size) := World.block_lt_of_cell? w3 _ c33
  clear R3 B3 hB2 c21 l2 hg3
  go_wp2_with fail
  refine (sizeOk_c 3 w3 (by decide) (by decide)).mono ?_
  rintro e w4 ⟨s, rfl, hs, _, rfl⟩
  have e8 : s = 8 := hs.uniq ⟨3, rfl, by decide, .inr (by decide)⟩
  subst e8
  clear hs
  go_wp2_with fail
  refine (zoomOk_c _ lva 2 2 2 0 _ (rdc2 w4 _ _ _ _) (lim_of _ (by decide)) rfl (by decide) (by decide) (by decide) (by decide) (by decide)).mono ?_
  rintro e w5 ⟨g5, us5, rfl, hg5, R5, B5⟩
  have c50 := R5.lit (k := 0) (by decide) ((zme_fwd 2 _ 0 (by decide)).trans lv1.1) (by decide) (by decide)
  have c51 := R5.lit (k := 1) (by decide) ((zme_fwd 2 _ 1 (by decide)).trans lv1.2) (by decide) (by decide)
  have k5 : Hid (Below w4.heap.size w4 w5) := below_tr ((Below.refl _ _).alloc (Nat.le_refl _) _) B5
  have e21 := (k5.out.cell (p := ⟨g2, 1, none⟩) l23.out).trans d21
  have e33 := (k5.out.cell (p := ⟨g3, 3, none⟩) l3.out).trans c33
  have e32 := (k5.out.cell (p := ⟨g3, 2, none⟩) l3.out).trans c32
  have hB5 : Hid (Below w.heap.size w w5) := below_tr hB3.out k5.out
  clear R5 B5 k5 hB3 c33 c32 d21 l23 l3 hg5
  have o0 : FloatKind.f64.format.order 0 0 = some .eq := by decide +kernel
  have o2 : FloatKind.f64.format.order 4613937818241073152 4613937818241073152 = some .eq := by decide +kernel
  have o3 : FloatKind.f64.format.order 13830554455654793216 13830554455654793216 = some .eq := by decide +kernel
  have o4 : FloatKind.f64.format.order 4607182418800017408 4607182418800017408 = some .eq := by decide +kernel
  go_wp2_with fail
  refine (leastOk_c 3 w5 (by decide) (by decide)).mono ?_
  rintro e w6 ⟨rfl, rfl⟩
  go_wp2_with fail
  go_ret
  exact ⟨rfl, hB5.out⟩
end Go.Proofs.YtgfmimmiaalhcaaDoor
