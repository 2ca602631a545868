/-
  Contracts of package bits' plain functions: what each returns at every float, the world as it was.
-/
import Derived.Test.YtmlfichdfeblpaaDoorProg
import Derived.Test.YtmlfichdfeblpaaDoorWrd
import Derived.WalkLawsBesides
namespace Go.Proofs.YtmlfichdfeblpaaDoor
open Flo Go.RowKit

end Go.Proofs.YtmlfichdfeblpaaDoor
