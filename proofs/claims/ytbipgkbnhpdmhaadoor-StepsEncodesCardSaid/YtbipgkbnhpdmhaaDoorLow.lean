/-
  Contracts of package bits' plain functions: what each returns at every float, the world as it was.
-/
import Derived.Test.YtbipgkbnhpdmhaaDoorProg
import Derived.Test.YtbipgkbnhpdmhaaDoorWrd
import Derived.WalkLawsBesides
namespace Go.Proofs.YtbipgkbnhpdmhaaDoor
open Flo Go.RowKit

end Go.Proofs.YtbipgkbnhpdmhaaDoor
