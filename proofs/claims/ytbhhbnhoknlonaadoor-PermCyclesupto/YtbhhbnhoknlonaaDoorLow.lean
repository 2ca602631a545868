/-
  Contracts of package bits' plain functions: what each returns at every float, the world as it was.
-/
import Derived.Test.YtbhhbnhoknlonaaDoorProg
import Derived.Test.YtbhhbnhoknlonaaDoorWrd
import Derived.WalkLawsBesides
namespace Go.Proofs.YtbhhbnhoknlonaaDoor
open Flo Go.RowKit

end Go.Proofs.YtbhhbnhoknlonaaDoor
