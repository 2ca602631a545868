/-
  Contracts of package bits' plain functions: what each returns at every float, the world as it was.
-/
import Derived.Test.YtonfdfmhnamimaaProg
import Derived.Test.YtonfdfmhnamimaaWrd
import Derived.WalkLawsBesides
namespace Go.Proofs.Ytonfdfmhnamimaa
open Flo Go.RowKit

theorem run_frombits (b : Int) (w : World) : (callFunc 10 #[.int .u64 b]).run Try.prog w = .ok (.value (.float .f64 b.toNat)) w := by kernel_rfl
end Go.Proofs.Ytonfdfmhnamimaa
