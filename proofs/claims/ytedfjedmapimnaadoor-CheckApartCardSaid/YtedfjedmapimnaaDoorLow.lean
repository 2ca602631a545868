/-
  Contracts of package bits' plain functions: what each returns at every float, the world as it was.
-/
import Derived.Test.YtedfjedmapimnaaDoorProg
import Derived.Test.YtedfjedmapimnaaDoorWrd
import Derived.WalkLawsBesides
namespace Go.Proofs.YtedfjedmapimnaaDoor
open Flo Go.RowKit

end Go.Proofs.YtedfjedmapimnaaDoor
