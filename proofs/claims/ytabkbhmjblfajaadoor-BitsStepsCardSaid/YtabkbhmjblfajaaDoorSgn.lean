/-
  The contract of math.Signbit (and of math.Abs and math.Inf where the program has them): the world as it was.
-/
import Derived.Test.YtabkbhmjblfajaaDoorLow
namespace Go.Proofs.YtabkbhmjblfajaaDoor
open Flo Go.RowKit
set_option maxHeartbeats 400000 in
theorem signbit_c (n : Nat) (w : World) (h : n < 18446744073709551616) :
    Calls Tryd.prog 38 #[.float .f64 n] w fun e w' => e = .returned (.bool (!decide (n < 9223372036854775808))) ∧ w = w' := by
  have h2 := run_tobits
  go_enter Tryd.func38, Tryd.ntmps38
  go_wp2
  go_ret
  refine ⟨ret_bool ?_, rfl⟩
  unfold wrap64
  by_cases hc : n < 9223372036854775808
  · rw [decide_eq_true hc]; exact decide_eq_false (by omega)
  · rw [decide_eq_false hc]; exact decide_eq_true (by omega)
set_option maxHeartbeats 400000 in
theorem inf_p (w : World) :
    Calls Tryd.prog 39 #[.int .i64 1] w fun e w' => e = .returned (.float .f64 9218868437227405312) ∧ w = w' := by
  have h3 := run_frombits
  go_enter Tryd.func39, Tryd.ntmps39
  go_wp2
  go_ret
  exact ⟨rfl, rfl⟩
set_option maxHeartbeats 400000 in
theorem inf_m (w : World) :
    Calls Tryd.prog 39 #[.int .i64 (-1)] w fun e w' => e = .returned (.float .f64 18442240474082181120) ∧ w = w' := by
  have h3 := run_frombits
  go_enter Tryd.func39, Tryd.ntmps39
  go_wp2
  go_ret
  exact ⟨rfl, rfl⟩
end Go.Proofs.YtabkbhmjblfajaaDoor
