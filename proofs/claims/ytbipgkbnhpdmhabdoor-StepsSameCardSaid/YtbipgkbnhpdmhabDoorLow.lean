/-
  Contracts of package bits' plain functions: what each returns at every float, the world as it was.
-/
import Derived.Test.YtbipgkbnhpdmhabDoorProg
import Derived.Test.YtbipgkbnhpdmhabDoorWrd
import Derived.WalkLawsBesides
namespace Go.Proofs.YtbipgkbnhpdmhabDoor
open Flo Go.RowKit

end Go.Proofs.YtbipgkbnhpdmhabDoor
