/-
  Contracts of package bits' plain functions: what each returns at every float, the world as it was.
-/
import Derived.Test.YtonfdfmhnamimaaDoorProg
import Derived.Test.YtonfdfmhnamimaaDoorWrd
import Derived.WalkLawsBesides
namespace Go.Proofs.YtonfdfmhnamimaaDoor
open Flo Go.RowKit

theorem run_frombits (b : Int) (w : World) : (callFunc 14 #[.int .u64 b]).run Tryd.prog w = .ok (.value (.float .f64 b.toNat)) w := by kernel_rfl
theorem run_tobits (b : Nat) (w : World) : (callFunc 16 #[.float .f64 b]).run Tryd.prog w = .ok (.value (.int .u64 b)) w := by kernel_rfl

end Go.Proofs.YtonfdfmhnamimaaDoor
