/-
  The contract of math.Signbit (and of math.Abs and math.Inf where the program has them): the world as it was.
-/
import Derived.Test.YtehaokdjdhejlaaDoorLow
namespace Go.Proofs.YtehaokdjdhejlaaDoor
open Flo Go.RowKit
set_option maxHeartbeats 400000 in
theorem abs_c (n : Nat) (w : World) (h : n < 18446744073709551616) :
    Calls Tryd.prog 68 #[.float .f64 n] w fun e w' => e = .returned (.float .f64 (sz n)) ∧ w = w' := by
  have h2 := run_tobits
  have h3 := run_frombits
  have e1 := andNot_sign n h
  go_enter Tryd.func68, Tryd.ntmps68
  go_wp2
  go_ret
  exact ⟨ret_float (by unfold sz; omega), rfl⟩
set_option maxHeartbeats 400000 in
theorem inf_p (w : World) :
    Calls Tryd.prog 25 #[.int .i64 1] w fun e w' => e = .returned (.float .f64 9218868437227405312) ∧ w = w' := by
  have h3 := run_frombits
  go_enter Tryd.func25, Tryd.ntmps25
  go_wp2
  go_ret
  exact ⟨rfl, rfl⟩
set_option maxHeartbeats 400000 in
theorem inf_m (w : World) :
    Calls Tryd.prog 25 #[.int .i64 (-1)] w fun e w' => e = .returned (.float .f64 18442240474082181120) ∧ w = w' := by
  have h3 := run_frombits
  go_enter Tryd.func25, Tryd.ntmps25
  go_wp2
  go_ret
  exact ⟨rfl, rfl⟩
end Go.Proofs.YtehaokdjdhejlaaDoor
