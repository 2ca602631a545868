/-
  The contract of the document's Join of layer 5.
-/
import Derived.Test.YtkgecgkjmikihabDoorRf6
namespace Go.Proofs.YtkgecgkjmikihabDoor
open Flo Go.RowKit Go.Lib

theorem mh_0 {m n : Nat} (h : m * n < 18446744073709551616) : mh m n = 0 := Nat.div_eq_of_lt h
/-- what Join answers -/
def jnR (a m b n : Nat) : Nat × Nat := if m = 0 ∨ n = 0 ∨ 18446744073709551616 ≤ m * n then (0, 5) else if Nat.gcd m n ≠ 1 then (0, 11) else (jn a m b n, 0)
end Go.Proofs.YtkgecgkjmikihabDoor
