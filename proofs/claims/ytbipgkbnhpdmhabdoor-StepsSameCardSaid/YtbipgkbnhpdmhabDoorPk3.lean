/-
  Package pack: a Writer's fixed, Float, Complex.
-/
import Derived.Test.YtbipgkbnhpdmhabDoorPk2
namespace Go.Proofs.YtbipgkbnhpdmhabDoor
open Flo Go.RowKit
end Go.Proofs.YtbipgkbnhpdmhabDoor
