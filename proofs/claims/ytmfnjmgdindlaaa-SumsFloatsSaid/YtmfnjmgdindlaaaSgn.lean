/-
  The contract of math.Signbit (and of math.Abs and math.Inf where the program has them): the world as it was.
-/
import Derived.Test.YtmfnjmgdindlaaaLow
namespace Go.Proofs.Ytmfnjmgdindlaaa
open Flo Go.RowKit
set_option maxHeartbeats 400000 in
theorem abs_c (n : Nat) (w : World) (h : n < 18446744073709551616) :
    Calls Try.prog 42 #[.float .f64 n] w fun e w' => e = .returned (.float .f64 (sz n)) ∧ w = w' := by
  have h2 := run_tobits
  have h3 := run_frombits
  have e1 := andNot_sign n h
  go_enter Try.func42, Try.ntmps42
  go_wp2
  go_ret
  exact ⟨ret_float (by unfold sz; omega), rfl⟩
set_option maxHeartbeats 400000 in
theorem inf_p (w : World) :
    Calls Try.prog 28 #[.int .i64 1] w fun e w' => e = .returned (.float .f64 9218868437227405312) ∧ w = w' := by
  have h3 := run_frombits
  go_enter Try.func28, Try.ntmps28
  go_wp2
  go_ret
  exact ⟨rfl, rfl⟩
set_option maxHeartbeats 400000 in
theorem inf_m (w : World) :
    Calls Try.prog 28 #[.int .i64 (-1)] w fun e w' => e = .returned (.float .f64 18442240474082181120) ∧ w = w' := by
  have h3 := run_frombits
  go_enter Try.func28, Try.ntmps28
  go_wp2
  go_ret
  exact ⟨rfl, rfl⟩
end Go.Proofs.Ytmfnjmgdindlaaa
