/-
  Package pack: a Writer's fixed, Float, Complex.
-/
import Derived.Test.YtmlfichdfeblpaaDoorPk2
namespace Go.Proofs.YtmlfichdfeblpaaDoor
open Flo Go.RowKit
end Go.Proofs.YtmlfichdfeblpaaDoor
