/-
  The walk of PrimesRoots, out of what was proved of package primes.
-/
import Derived.Test.YtkgecgkjmikihabDoorRtW
import Derived.Test.YtkgecgkjmikihabDoorPg6
import Derived.Test.YtkgecgkjmikihabDoorLy5
import Derived.Test.YtkgecgkjmikihabDoorRows
namespace Go.Proofs.YtkgecgkjmikihabDoor.primesRoots
open Go.RowKit
theorem walk (x0 : Int) (w : World) (l0 : -9223372036854775808 ≤ x0) (u0 : x0 ≤ 9223372036854775807) (hL : laidMetH Tryd.prog Rows.primesRootsRow.laid w) :
    Calls Tryd.prog 3 #[.int .i64 x0] w fun e w' => e = .returned (.bool true) ∧ Below w.heap.size w w' := by
  obtain ⟨al, he⟩ := errs_of (W := w) hL
  exact roots_w p5 x0 w al he ⟨l0, u0⟩
end Go.Proofs.YtkgecgkjmikihabDoor.primesRoots
