/-
  The walk of PrimesJoins, out of what was proved of package primes.
-/
import Derived.Test.YtkgecgkjmikihabDoorJnW
import Derived.Test.YtkgecgkjmikihabDoorPg6
import Derived.Test.YtkgecgkjmikihabDoorLy5
import Derived.Test.YtkgecgkjmikihabDoorRows
namespace Go.Proofs.YtkgecgkjmikihabDoor.primesJoins
open Go.RowKit
theorem walk (x0 x1 x2 x3 : Int) (w : World) (l0 : 0 ≤ x0) (u0 : x0 ≤ 18446744073709551615) (l1 : 0 ≤ x1) (u1 : x1 ≤ 18446744073709551615) (l2 : 0 ≤ x2) (u2 : x2 ≤ 18446744073709551615) (l3 : 0 ≤ x3) (u3 : x3 ≤ 18446744073709551615) (hL : laidMetH Tryd.prog Rows.primesJoinsRow.laid w) :
    Calls Tryd.prog 4 #[.int .u64 x0, .int .u64 x1, .int .u64 x2, .int .u64 x3] w fun e w' => e = .returned (.bool true) ∧ Below w.heap.size w w' := by
  obtain ⟨n0, rfl⟩ := Int.eq_ofNat_of_zero_le l0
  obtain ⟨n1, rfl⟩ := Int.eq_ofNat_of_zero_le l1
  obtain ⟨n2, rfl⟩ := Int.eq_ofNat_of_zero_le l2
  obtain ⟨n3, rfl⟩ := Int.eq_ofNat_of_zero_le l3
  obtain ⟨al, he⟩ := errs_of (W := w) hL
  exact joins_w p5 n0 n1 n2 n3 w al he (by omega) (by omega) (by omega) (by omega)
end Go.Proofs.YtkgecgkjmikihabDoor.primesJoins
