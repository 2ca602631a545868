/-
  Contracts of the document's Apart of layer 1: the steps between; its error's number.
-/
import Derived.Test.YtabkbhmjblfajaaDoorRef
namespace Go.Proofs.YtabkbhmjblfajaaDoor
open Flo Go.RowKit
theorem ret_two2 {k j : IntKind} {a b c d : Int} (h : a = b) (h' : c = d) : Ending.returned (.tuple #[.int k a, .int j c]) = .returned (.tuple #[.int k b, .int j d]) := by rw [h, h']
set_option maxHeartbeats 400000 in
theorem rapart_c (a b : Nat) (w : World) (ha : a < 18446744073709551616) (hb : b < 18446744073709551616) (h1 : nanB a = false) (h2 : nanB b = false) :
    Calls Tryd.prog 29 #[.float .f64 a, .float .f64 b] w fun e w' => e = .returned (.tuple #[.int .u64 (ap a b : Nat), .int .i64 0]) ∧ w = w' := by
  have x : Hid (_ ∧ _ ∧ _) := rp_fin ha h1
  have y : Hid (_ ∧ _ ∧ _) := rp_fin hb h2
  have e1 : (rp a == 9223372036854775807) = false := beq_eq_false_iff_ne.2 (by have := x.out; omega)
  have e2 : (rp b == 9223372036854775807) = false := beq_eq_false_iff_ne.2 (by have := y.out; omega)
  go_enter Tryd.func29, Tryd.ntmps29
  go_wp2_with (go_at_call 51; refine (rplace_c _ _ (by assumption)).mono ?_; rintro e w' ⟨rfl, rfl⟩)
  all_goals go_ret2
  all_goals refine ⟨ret_two2 ?_ rfl, rfl⟩
  all_goals have x' := x.out
  all_goals have y' := y.out
  all_goals unfold ap
  all_goals simp only [IntKind.wrap_u64]
  all_goals split <;> omega
set_option maxHeartbeats 400000 in
theorem rapart_n1 (a b : Nat) (w : World) (ha : a < 18446744073709551616) (hb : b < 18446744073709551616) (h1 : nanB a = true) :
    Calls Tryd.prog 29 #[.float .f64 a, .float .f64 b] w fun e w' => e = .returned (.tuple #[.int .u64 0, .int .i64 13]) ∧ w = w' := by
  have e1 : (rp a == 9223372036854775807) = true := beq_iff_eq.2 (rp_nan h1)
  go_enter Tryd.func29, Tryd.ntmps29
  go_wp2_with (go_at_call 51; refine (rplace_c _ _ (by assumption)).mono ?_; rintro e w' ⟨rfl, rfl⟩)
  go_ret2
  exact ⟨rfl, rfl⟩
set_option maxHeartbeats 400000 in
theorem rapart_n2 (a b : Nat) (w : World) (ha : a < 18446744073709551616) (hb : b < 18446744073709551616) (h1 : nanB a = false) (h2 : nanB b = true) :
    Calls Tryd.prog 29 #[.float .f64 a, .float .f64 b] w fun e w' => e = .returned (.tuple #[.int .u64 0, .int .i64 13]) ∧ w = w' := by
  have e1 : (rp a == 9223372036854775807) = false := beq_eq_false_iff_ne.2 (by have := rp_fin ha h1; omega)
  have e2 : (rp b == 9223372036854775807) = true := beq_iff_eq.2 (rp_nan h2)
  go_enter Tryd.func29, Tryd.ntmps29
  go_wp2_with (go_at_call 51; refine (rplace_c _ _ (by assumption)).mono ?_; rintro e w' ⟨rfl, rfl⟩)
  go_ret2
  exact ⟨rfl, rfl⟩
end Go.Proofs.YtabkbhmjblfajaaDoor
