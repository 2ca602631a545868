/-
  The walk of PrimesGcd, out of what was proved of package primes.
-/
import Derived.Test.YtkgecgkjmikihaaDoorGcW
import Derived.Test.YtkgecgkjmikihaaDoorPg6
import Derived.Test.YtkgecgkjmikihaaDoorLy5
import Derived.Test.YtkgecgkjmikihaaDoorRows
namespace Go.Proofs.YtkgecgkjmikihaaDoor.primesGcd
open Go.RowKit
theorem walk (x0 x1 x2 : Int) (w : World) (l0 : -9223372036854775808 ≤ x0) (u0 : x0 ≤ 9223372036854775807) (l1 : -9223372036854775808 ≤ x1) (u1 : x1 ≤ 9223372036854775807) (_l2 : -9223372036854775808 ≤ x2) (_u2 : x2 ≤ 9223372036854775807) (_hL : laidMetH Tryd.prog Rows.primesGcdRow.laid w) :
    Calls Tryd.prog 7 #[.int .i64 x0, .int .i64 x1, .int .i64 x2] w fun e w' => e = .returned (.bool true) ∧ Below w.heap.size w w' := by
  exact gcd_w p5 x0 x1 x2 w ⟨l0, u0⟩ ⟨l1, u1⟩
end Go.Proofs.YtkgecgkjmikihaaDoor.primesGcd
