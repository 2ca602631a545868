/-
  Package pack: a Writer's fixed, Float, Complex.
-/
import Derived.Test.YtlbnldbelfgokaaDoorPk2
namespace Go.Proofs.YtlbnldbelfgokaaDoor
open Flo Go.RowKit
end Go.Proofs.YtlbnldbelfgokaaDoor
