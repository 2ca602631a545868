/-
  The contract of math.Signbit (and of math.Abs and math.Inf where the program has them): the world as it was.
-/
import Derived.Test.YtbljgmipfclcoaaDoorLow
namespace Go.Proofs.YtbljgmipfclcoaaDoor
open Flo Go.RowKit
set_option maxHeartbeats 400000 in
theorem signbit_c (n : Nat) (w : World) (h : n < 18446744073709551616) :
    Calls Tryd.prog 28 #[.float .f64 n] w fun e w' => e = .returned (.bool (!decide (n < 9223372036854775808))) ∧ w = w' := by
  have h2 := run_tobits
  go_enter Tryd.func28, Tryd.ntmps28
  go_wp2
  go_ret
  refine ⟨ret_bool ?_, rfl⟩
  unfold wrap64
  by_cases hc : n < 9223372036854775808
  · rw [decide_eq_true hc]; exact decide_eq_false (by omega)
  · rw [decide_eq_false hc]; exact decide_eq_true (by omega)
end Go.Proofs.YtbljgmipfclcoaaDoor
