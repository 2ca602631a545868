/-
  Contracts of package bits' plain functions: what each returns at every float, the world as it was.
-/
import Derived.Test.YtkgecgkjmikihabDoorProg
import Derived.Test.YtkgecgkjmikihabDoorWrd
import Derived.WalkLawsBesides
namespace Go.Proofs.YtkgecgkjmikihabDoor
open Flo Go.RowKit

end Go.Proofs.YtkgecgkjmikihabDoor
