/-
  Package pack: a Writer's fixed, Float, Complex.
-/
import Derived.Test.YtebknahackkhnaaDoorPk2
namespace Go.Proofs.YtebknahackkhnaaDoor
open Flo Go.RowKit
end Go.Proofs.YtebknahackkhnaaDoor
