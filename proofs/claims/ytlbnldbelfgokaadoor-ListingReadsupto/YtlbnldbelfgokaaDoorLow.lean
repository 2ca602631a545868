/-
  Contracts of package bits' plain functions: what each returns at every float, the world as it was.
-/
import Derived.Test.YtlbnldbelfgokaaDoorProg
import Derived.Test.YtlbnldbelfgokaaDoorWrd
import Derived.WalkLawsBesides
namespace Go.Proofs.YtlbnldbelfgokaaDoor
open Flo Go.RowKit

end Go.Proofs.YtlbnldbelfgokaaDoor
