/-
  Contracts of package bits' plain functions: what each returns at every float, the world as it was.
-/
import Derived.Test.YtmnbpmmilfkjiaaDoorProg
import Derived.Test.YtmnbpmmilfkjiaaDoorWrd
import Derived.WalkLawsBesides
namespace Go.Proofs.YtmnbpmmilfkjiaaDoor
open Flo Go.RowKit

end Go.Proofs.YtmnbpmmilfkjiaaDoor
