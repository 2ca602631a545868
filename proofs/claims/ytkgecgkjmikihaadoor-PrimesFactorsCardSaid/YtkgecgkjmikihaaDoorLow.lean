/-
  Contracts of package bits' plain functions: what each returns at every float, the world as it was.
-/
import Derived.Test.YtkgecgkjmikihaaDoorProg
import Derived.Test.YtkgecgkjmikihaaDoorWrd
import Derived.WalkLawsBesides
namespace Go.Proofs.YtkgecgkjmikihaaDoor
open Flo Go.RowKit

end Go.Proofs.YtkgecgkjmikihaaDoor
