/-
  The walk of PrimesSmooths, out of what was proved of package primes.
-/
import Derived.Test.YtkgecgkjmikihaaDoorPg5
import Derived.Test.YtkgecgkjmikihaaDoorPg6
import Derived.Test.YtkgecgkjmikihaaDoorLy5
import Derived.Test.YtkgecgkjmikihaaDoorRows
namespace Go.Proofs.YtkgecgkjmikihaaDoor.primesSmooths
open Go.RowKit
theorem walk (x0 x1 : Int) (w : World) (l0 : -9223372036854775808 ≤ x0) (u0 : x0 ≤ 9223372036854775807) (l1 : -9223372036854775808 ≤ x1) (u1 : x1 ≤ 9223372036854775807) (hL : laidMetH Tryd.prog Rows.primesSmoothsRow.laid w) :
    Calls Tryd.prog 5 #[.int .i64 x0, .int .i64 x1] w fun e w' => e = .returned (.bool true) ∧ Below w.heap.size w w' := by
  obtain ⟨al, he⟩ := errs_of (W := w) hL
  exact smooths_w p5 p5s x0 x1 w al he ⟨l0, u0⟩ ⟨l1, u1⟩
end Go.Proofs.YtkgecgkjmikihaaDoor.primesSmooths
