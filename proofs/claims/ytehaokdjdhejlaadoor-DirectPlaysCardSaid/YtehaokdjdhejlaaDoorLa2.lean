/-
  Layer 10's statements: the fixed facts.
-/
import Derived.Test.YtehaokdjdhejlaaDoorLa1
import Derived.Test.YtehaokdjdhejlaaDoorDp4
import Derived.Test.YtehaokdjdhejlaaDoorDp5
namespace Go.Proofs.YtehaokdjdhejlaaDoor
open Flo Go.RowKit

theorem eqbt10 {x c : Nat} (h : bt x = bt c) (hc : nanB c = false) : x = c := by
  have h1 : nanB x = false := by rw [← nan_bt, h, nan_bt, hc]
  rw [bt_fin hc, bt_fin h1] at h
  exact h
theorem Lk.eq {z : Nat × Nat} {a b : Nat} (h : Lk z (a, b)) (ha : nanB a = false) (hb : nanB b = false) : z = (a, b) := by
  obtain ⟨x, y⟩ := z
  have e1 : x = a := eqbt10 h.1 ha
  have e2 : y = b := eqbt10 h.2 hb
  rw [e1, e2]
theorem Row.lit {w : World} {B g n : Nat} {f : Nat → Nat × Nat} {us : List (Nat × Nat)} (h : Row w B g n f n us) {k : Nat} (hk : k < n) {a b : Nat} (hf : f k = (a, b)) (ha : nanB a = false) (hb : nanB b = false) : w.cell? ⟨g, k, none⟩ = some (.complex .f64 a b) := by
  have h1 := h.cell hk
  have h2 := h.up k hk
  rw [hf] at h2
  rw [h2.eq ha hb] at h1
  exact h1
theorem rdc2 (w : World) (a b c d : Nat) : RdC (w.alloc (.cells #[.complex .f64 a b, .complex .f64 c d] 37)) (.slice (some ⟨w.heap.size, 0, none⟩) 2 2) [(a, b), (c, d)] := by
  refine ⟨_, 2, rfl, fun _ => ⟨w.heap.size, 0, rfl, by simp, fun i hi => ?_⟩⟩
  have hi' : i < 2 := hi
  rw [Nat.zero_add, cell_of_row _ _ _ _ _ _ (heap_alloc_new w _)]
  match i, hi' with
  | 0, _ => rfl | 1, _ => rfl
theorem rdc3 (w : World) (a b c d e f : Nat) : RdC (w.alloc (.cells #[.complex .f64 a b, .complex .f64 c d, .complex .f64 e f] 37)) (.slice (some ⟨w.heap.size, 0, none⟩) 3 3) [(a, b), (c, d), (e, f)] := by
  refine ⟨_, 3, rfl, fun _ => ⟨w.heap.size, 0, rfl, by simp, fun i hi => ?_⟩⟩
  have hi' : i < 3 := hi
  rw [Nat.zero_add, cell_of_row _ _ _ _ _ _ (heap_alloc_new w _)]
  match i, hi' with
  | 0, _ => rfl | 1, _ => rfl | 2, _ => rfl
def lva : List (Nat × Nat) := [(4607182418800017408, 0), (4611686018427387904, 0)]
def lvb : List (Nat × Nat) := [(4613937818241073152, 0), (13830554455654793216, 0)]
def lvc : List (Nat × Nat) := [(4617315517961601024, 0), (4619567317775286272, 0), (4621256167635550208, 0)]
theorem lim_of (zs : List (Nat × Nat)) (h : (zs.all fun z => decide (z.1 < 18446744073709551616) && decide (z.2 < 18446744073709551616)) = true) : Lim zs := by
  intro i hi
  have := List.all_eq_true.1 h (zs.getD i (0, 0)) (by simp [List.getD, hi])
  simpa using this
theorem lv1 : (dsm 2 0 fun j => lva.getD j (0, 0)) = (4613937818241073152, 0) ∧ (dsm 2 1 fun j => lva.getD j (0, 0)) = (13830554455654793216, 0) := by decide +kernel
theorem lv2 : (ivk 2 0 fun j => lvb.getD j (0, 0)) = (4607182418800017408, 0) ∧ (ivk 2 1 fun j => lvb.getD j (0, 0)) = (4611686018427387904, 9223372036854775808) := by decide +kernel
theorem lv3 : sld 2 (4607182418800017408, 0) (4617315517961601024, 0) (fun j => lvb.getD j (0, 0)) 0 = (4619567317775286272, 0) ∧ sld 2 (4607182418800017408, 0) (4617315517961601024, 0) (fun j => lvb.getD j (0, 0)) 1 = (13837309855095848960, 0) := by decide +kernel
theorem lv4 : (dsm 2 (Rp.md 2 1) fun j => lvc.getD ((0 : Int).toNat + j * (2 : Int).toNat) (0, 0)) = (13839561654909534208, 0) := by decide +kernel
set_option maxRecDepth 100000 in
set_option maxHeartbeats 2000000 in
theorem lives10_c (w : World) : Calls Tryd.prog 8 #[] w fun e w' => e = .returned (.bool true) ∧ Below w.heap.size w w' := by
  go_enter Tryd.func8, Tryd.ntmps8
  go_wp2_with fail
  refine (forwardOk_c _ lva 2 _ (rdc2 w _ _ _ _) (lim_of _ (by decide)) rfl (by decide) (by decide)).mono ?_
  rintro e w1 ⟨g1, us1, rfl, hg1, R1, B1⟩
  have c10 := R1.lit (k := 0) (by decide) lv1.1 (by decide) (by decide)
  have c11 := R1.lit (k := 1) (by decide) lv1.2 (by decide) (by decide)
  have hB1 : Hid (Below w.heap.size w w1) := below_tr ((Below.refl _ _).alloc (Nat.le_refl _) _) B1
  have l1 : Hid (g1 < w1.heap.size) := World.block_lt_of_cell? w1 _ c10
  clear R1 B1
  go_wp2_with fail
  refine (inverseOk_c _ lvb 2 _ (rdc2 w1 _ _ _ _) (lim_of _ (by decide)) rfl (by decide) (by decide)).mono ?_
  rintro e w2 ⟨g2, us2, rfl, hg2, R2, B2⟩
  have c20 := R2.lit (k := 0) (by decide) lv2.1 (by decide) (by decide)
  have c21 := R2.lit (k := 1) (by decide) lv2.2 (by decide) (by decide)
  have k2 : Hid (Below w1.heap.size w1 w2) := below_tr ((Below.refl _ _).alloc (Nat.le_refl _) _) B2
  have d10 := (k2.out.cell (p := ⟨g1, 0, none⟩) l1.out).trans c10
  have d11 := (k2.out.cell (p := ⟨g1, 1, none⟩) l1.out).trans c11
  have hB2 : Hid (Below w.heap.size w w2) := below_tr hB1.out k2.out
  have l12 : Hid (g1 < w2.heap.size) := World.block_lt_of_cell? w2 _ d10
  have l2 : Hid (g2 < w2.heap.size) := World.block_lt_of_cell? w2 _ c20
  clear R2 B2 c10 c11 k2 hB1 l1
  go_wp2_with fail
  refine (slideOk_c _ _ _ _ _ lvb 2 _ (rdc2 w2 _ _ _ _) rfl (by decide) (by decide)).mono ?_
  rintro e w3 ⟨g3, us3, rfl, hg3, R3, B3⟩
  have c30 := R3.lit (k := 0) (by decide) lv3.1 (by decide) (by decide)
  have c31 := R3.lit (k := 1) (by decide) lv3.2 (by decide) (by decide)
  have k3 : Hid (Below w2.heap.size w2 w3) := below_tr ((Below.refl _ _).alloc (Nat.le_refl _) _) B3
  have e10 := (k3.out.cell (p := ⟨g1, 0, none⟩) l12.out).trans d10
  have e11 := (k3.out.cell (p := ⟨g1, 1, none⟩) l12.out).trans d11
  have e20 := (k3.out.cell (p := ⟨g2, 0, none⟩) l2.out).trans c20
  have e21 := (k3.out.cell (p := ⟨g2, 1, none⟩) l2.out).trans c21
  have hB3 : Hid (Below w.heap.size w w3) := below_tr hB2.out k3.out
  have l13 : Hid (g1 < w3.heap.size) := World.block_lt_of_cell? w3 _ e10
  have l23 : Hid (g2 < w3.heap.size) := World.block_lt_of_cell? w3 _ e20
  have l3 : Hid (g3 < w3.heap.size) := World.block_lt_of_cell? w3 _ c30
  clear R3 B3 c20 c21 d10 d11 k3 hB2 l12 l2
  go_wp2_with fail
  refine (atOk_c _ lvc 0 2 1 2 _ (rdc3 w3 _ _ _ _ _ _) (lim_of _ (by decide)) (by decide) (by decide) (by decide) (by decide)).mono ?_
  rintro e w4 ⟨x, y, rfl, B4, lx, ly, lk⟩
  rw [lv4] at lk
  have exy := lk.eq (by decide) (by decide)
  simp only [Prod.mk.injEq] at exy
  obtain ⟨rfl, rfl⟩ := exy
  have k4 : Hid (Below w3.heap.size w3 w4) := below_tr ((Below.refl _ _).alloc (Nat.le_refl _) _) B4
  have f10 := (k4.out.cell (p := ⟨g1, 0, none⟩) l13.out).trans e10
  have f11 := (k4.out.cell (p := ⟨g1, 1, none⟩) l13.out).trans e11
  have f20 := (k4.out.cell (p := ⟨g2, 0, none⟩) l23.out).trans e20
  have f21 := (k4.out.cell (p := ⟨g2, 1, none⟩) l23.out).trans e21
  have f30 := (k4.out.cell (p := ⟨g3, 0, none⟩) l3.out).trans c30
  have f31 := (k4.out.cell (p := ⟨g3, 1, none⟩) l3.out).trans c31
  have hB4 : Hid (Below w.heap.size w w4) := below_tr hB3.out k4.out
  clear B4 lx ly lk e10 e11 e20 e21 c30 c31 k4 hB3 l13 l23 l3 hg1 hg2 hg3
  have o0 : FloatKind.f64.format.order 0 0 = some .eq := by decide +kernel
  have o1 : FloatKind.f64.format.order 9223372036854775808 0 = some .eq := by decide +kernel
  have o2 : FloatKind.f64.format.order 4613937818241073152 4613937818241073152 = some .eq := by decide +kernel
  have o3 : FloatKind.f64.format.order 13830554455654793216 13830554455654793216 = some .eq := by decide +kernel
  have o4 : FloatKind.f64.format.order 4607182418800017408 4607182418800017408 = some .eq := by decide +kernel
  have o5 : FloatKind.f64.format.order 4611686018427387904 4611686018427387904 = some .eq := by decide +kernel
  have o6 : FloatKind.f64.format.order 4619567317775286272 4619567317775286272 = some .eq := by decide +kernel
  have o7 : FloatKind.f64.format.order 13837309855095848960 13837309855095848960 = some .eq := by decide +kernel
  have o8 : FloatKind.f64.format.order 13839561654909534208 13839561654909534208 = some .eq := by decide +kernel
  go_wp2_with fail
  go_ret
  exact ⟨rfl, hB4.out⟩
end Go.Proofs.YtehaokdjdhejlaaDoor
