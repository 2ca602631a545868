/-
  Contracts of package bits' plain functions: what each returns at every float, the world as it was.
-/
import Derived.Test.YtehaokdjdhejlaaDoorProg
import Derived.Test.YtehaokdjdhejlaaDoorWrd
import Derived.WalkLawsBesides
namespace Go.Proofs.YtehaokdjdhejlaaDoor
open Flo Go.RowKit

theorem run_frombits (b : Int) (w : World) : (callFunc 29 #[.int .u64 b]).run Tryd.prog w = .ok (.value (.float .f64 b.toNat)) w := by kernel_rfl
theorem run_tobits (b : Nat) (w : World) : (callFunc 61 #[.float .f64 b]).run Tryd.prog w = .ok (.value (.int .u64 b)) w := by kernel_rfl

set_option maxHeartbeats 400000 in
theorem of_c (b : Int) (w : World) :
    Calls Tryd.prog 76 #[.int .u64 b] w fun e w' => e = .returned (.float .f64 b.toNat) ∧ w = w' := by
  have h1 := run_frombits
  go_enter Tryd.func76, Tryd.ntmps76
  go_wp2
  go_ret
  exact ⟨rfl, rfl⟩
end Go.Proofs.YtehaokdjdhejlaaDoor
