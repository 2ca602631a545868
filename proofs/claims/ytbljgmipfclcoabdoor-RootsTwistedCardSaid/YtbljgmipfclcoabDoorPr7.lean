/-
  The contract of the document's pair of layer 7.
-/
import Derived.Test.YtbljgmipfclcoabDoorMd7
import Derived.Deep.QuietTactic
import Derived.BigQuiet
namespace Go.Proofs.YtbljgmipfclcoabDoor
open Flo Go.RowKit

end Go.Proofs.YtbljgmipfclcoabDoor
