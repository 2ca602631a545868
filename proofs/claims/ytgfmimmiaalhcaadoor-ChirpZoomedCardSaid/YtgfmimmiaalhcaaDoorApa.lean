/-
  Contracts of bits.Apart: the steps between two floats that are no NaN; ErrNumber's value where one is.
-/
import Derived.Test.YtgfmimmiaalhcaaDoorLow
import Derived.RegionTactic
import Derived.ChangeAlike
import Derived.Outline
namespace Go.Proofs.YtgfmimmiaalhcaaDoor
open Flo Go.RowKit
theorem ret_pair {k : IntKind} {a b : Int} {v : Value} (h : a = b) : Ending.returned (.tuple #[.int k a, v]) = .returned (.tuple #[.int k b, v]) := by rw [h]
def ap (a b : Nat) : Nat := if pl a ≤ pl b then pl b - pl a else pl a - pl b
end Go.Proofs.YtgfmimmiaalhcaaDoor
