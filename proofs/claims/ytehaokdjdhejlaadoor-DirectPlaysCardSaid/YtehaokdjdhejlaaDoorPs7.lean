/-
  Contracts of package roots: the calls that are told outside, where they are not refused.
-/
import Derived.Test.YtehaokdjdhejlaaDoorPp7
import Derived.Test.YtehaokdjdhejlaaDoorClx
import Derived.Test.YtehaokdjdhejlaaDoorCpx
namespace Go.Proofs.YtehaokdjdhejlaaDoor
open Flo Go.RowKit

/-- may n be the length of a turn -/
def cu (n : Int) : Bool := decide (1 ≤ n ∧ n ≤ 4194304)
theorem cu_t {n : Int} (h : cu n = true) : 1 ≤ n ∧ n ≤ 4194304 := of_decide_eq_true h
theorem ret_fff {a b c d : Nat} {v : Value} (h : a = b) (h' : c = d) : Ending.returned (.tuple #[.float .f64 a, .float .f64 c, v]) = .returned (.tuple #[.float .f64 b, .float .f64 d, v]) := by rw [h, h']
end Go.Proofs.YtehaokdjdhejlaaDoor
