/-
  Contracts of bits.Apart: the steps between two floats that are no NaN; ErrNumber's value where one is.
-/
import Derived.Test.YtabkbhmjblfajaaDoorLow
import Derived.RegionTactic
import Derived.ChangeAlike
import Derived.Outline
namespace Go.Proofs.YtabkbhmjblfajaaDoor
open Flo Go.RowKit
theorem ret_pair {k : IntKind} {a b : Int} {v : Value} (h : a = b) : Ending.returned (.tuple #[.int k a, v]) = .returned (.tuple #[.int k b, v]) := by rw [h]
def ap (a b : Nat) : Nat := if pl a ≤ pl b then pl b - pl a else pl a - pl b
set_option maxHeartbeats 400000 in
theorem apart_c (a b : Nat) (w : World) (ha : a < 18446744073709551616) (hb : b < 18446744073709551616) (h1 : nanB a = false) (h2 : nanB b = false) :
    Calls Tryd.prog 28 #[.float .f64 a, .float .f64 b] w fun e w' => e = .returned (.tuple #[.int .u64 (ap a b : Nat), .nilIface]) ∧ w = w' := by
  have p1 := pl_lt ha
  have p2 := pl_lt hb
  go_enter Tryd.func28, Tryd.ntmps28
  go_wp2_with (first | (go_at_call 48; refine (isNaN_c _ _ (by assumption)).mono ?_; rintro e w' ⟨rfl, rfl⟩) | (go_at_call 50; refine (place_c _ _ (by assumption)).mono ?_; rintro e w' ⟨rfl, rfl⟩))
  all_goals go_ret2
  all_goals exact ⟨ret_pair (by unfold ap; split <;> omega), rfl⟩
set_option maxHeartbeats 400000 in
theorem apart_nan (a b : Nat) (w : World) (v : Value) (ha : a < 18446744073709551616) (hg : w.cell? ⟨0, 0, none⟩ = some v) (h1 : nanB a = true) :
    Calls Tryd.prog 28 #[.float .f64 a, .float .f64 b] w fun e w' => e = .returned (.tuple #[.int .u64 0, v]) ∧ w.drew = w' := by
  go_enter Tryd.func28, Tryd.ntmps28
  go_wp2_with (first | (go_at_call 48; refine (isNaN_c _ _ (by assumption)).mono ?_; rintro e w' ⟨rfl, rfl⟩) | (go_at_call 50; refine (place_c _ _ (by assumption)).mono ?_; rintro e w' ⟨rfl, rfl⟩))
  go_region
  go_wp2
  go_ret2
  exact ⟨rfl, rfl⟩
set_option maxHeartbeats 400000 in
theorem apart_nan2 (a b : Nat) (w : World) (v : Value) (ha : a < 18446744073709551616) (hb : b < 18446744073709551616) (hg : w.cell? ⟨0, 0, none⟩ = some v) (h1 : nanB a = false) (h2 : nanB b = true) :
    Calls Tryd.prog 28 #[.float .f64 a, .float .f64 b] w fun e w' => e = .returned (.tuple #[.int .u64 0, v]) ∧ w.drew = w' := by
  go_enter Tryd.func28, Tryd.ntmps28
  go_wp2_with (first | (go_at_call 48; refine (isNaN_c _ _ (by assumption)).mono ?_; rintro e w' ⟨rfl, rfl⟩) | (go_at_call 50; refine (place_c _ _ (by assumption)).mono ?_; rintro e w' ⟨rfl, rfl⟩))
  go_region
  go_wp2
  go_ret2
  exact ⟨rfl, rfl⟩
end Go.Proofs.YtabkbhmjblfajaaDoor
