/-
  Contracts of package bits' plain functions: what each returns at every float, the world as it was.
-/
import Derived.Test.YtebknahackkhnaaDoorProg
import Derived.Test.YtebknahackkhnaaDoorWrd
import Derived.WalkLawsBesides
namespace Go.Proofs.YtebknahackkhnaaDoor
open Flo Go.RowKit

end Go.Proofs.YtebknahackkhnaaDoor
