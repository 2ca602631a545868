/-
  The contract of math.Signbit (and of math.Abs and math.Inf where the program has them): the world as it was.
-/
import Derived.Test.YtbljgmipfclcoabDoorLow
namespace Go.Proofs.YtbljgmipfclcoabDoor
open Flo Go.RowKit
set_option maxHeartbeats 400000 in
theorem abs_c (n : Nat) (w : World) (h : n < 18446744073709551616) :
    Calls Tryd.prog 17 #[.float .f64 n] w fun e w' => e = .returned (.float .f64 (sz n)) ∧ w = w' := by
  have h2 := run_tobits
  have h3 := run_frombits
  have e1 := andNot_sign n h
  go_enter Tryd.func17, Tryd.ntmps17
  go_wp2
  go_ret
  exact ⟨ret_float (by unfold sz; omega), rfl⟩
end Go.Proofs.YtbljgmipfclcoabDoor
