/-
  The statements' blue: is there a Blue in a tree?
-/
import Derived.Test.YtfoblbpbhldngaaDoorOd3
namespace Go.Proofs.YtfoblbpbhldngaaDoor
open Flo Go.RowKit Tr
namespace Tr
def bl : Tr → Bool
  | ⟨k, _, ks⟩ => (ks.map bl).any id || (k == 4)
theorem bl_eq (k n : Int) (ks : List Tr) : bl ⟨k, n, ks⟩ = ((ks.map bl).any id || (k == 4)) := by rw [bl]
theorem bl_kid {k n : Int} {ks : List Tr} {t : Tr} (h : t ∈ ks) (hb : bl t = true) : bl ⟨k, n, ks⟩ = true := by
  have e : (ks.map bl).any id = true := List.any_eq_true.2 ⟨bl t, List.mem_map_of_mem h, hb⟩
  rw [bl_eq, e]; rfl
theorem bl_none {k n : Int} {ks : List Tr} (h : ∀ t ∈ ks, bl t = false) : bl ⟨k, n, ks⟩ = (k == 4) := by
  rw [bl_eq, List.any_map, List.any_eq_false.2 (fun t ht => by show ¬ bl t = true; rw [h t ht]; decide)]; rfl
end Tr
set_option maxHeartbeats 400000 in
/-- too many parts to be gone through -/
theorem large_c (t : Tr) (v : Value) (w : World) (ho : Od w t v) : Calls Tryd.prog 10 #[v] w fun e w' => e = .returned (.bool (decide (4500 < pt t))) ∧ Below w.heap.size w w' := by
  obtain ⟨k, n, ks⟩ := t
  obtain ⟨ao, cap, rfl, _, _⟩ := ho.kds
  obtain ⟨t, ht⟩ : ∃ t, Hid (Tr.mk k n ks = t) := ⟨_, (rfl : _ = _)⟩
  obtain ⟨L, hL⟩ : ∃ L, Hid (ks.length = L) := ⟨_, (rfl : _ = _)⟩
  rw [hL.out] at ho ⊢
  rw [ht.out] at ho ⊢
  have hoH : Hid (Od w t (.agg #[.int .i64 k, .int .i64 n, .slice ao L cap])) := ho
  clear ho
  have B0 : Hid (Below w.heap.size w (w.alloc (.cells #[.int .i64 k, .int .i64 n, .slice ao L cap] 25))) := (Below.refl _ _).alloc (Nat.le_refl _) _
  go_enter Tryd.func10, Tryd.ntmps10
  go_wp2_with fail
  refine (rParts_c t _ 4500 _ (Od.below B0.out _ _ hoH.out) (Nat.le_refl _)).mono ?_
  rintro e w1 ⟨rfl, W1⟩
  have B1 : Hid (Below w.heap.size w w1) := btr B0.out W1
  clear W1
  obtain ⟨R, hR⟩ : ∃ R : Nat, Hid (min (pt t) (4500 + 1) = R) := ⟨_, (rfl : _ = _)⟩
  rw [hR.out]
  have hv : Hid (decide ((R : Int) > 4500) = decide (4500 < pt t)) := by
    show _ = _
    have h := hR.out
    exact decide_eq_decide.2 (by omega)
  go_wp2_with fail
  go_ret
  exact ⟨by rw [← hv.out]; rfl, B1.out⟩
end Go.Proofs.YtfoblbpbhldngaaDoor
