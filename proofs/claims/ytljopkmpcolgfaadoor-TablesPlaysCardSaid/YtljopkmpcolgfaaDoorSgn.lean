/-
  The contract of math.Signbit (and of math.Abs and math.Inf where the program has them): the world as it was.
-/
import Derived.Test.YtljopkmpcolgfaaDoorLow
namespace Go.Proofs.YtljopkmpcolgfaaDoor
open Flo Go.RowKit
end Go.Proofs.YtljopkmpcolgfaaDoor
