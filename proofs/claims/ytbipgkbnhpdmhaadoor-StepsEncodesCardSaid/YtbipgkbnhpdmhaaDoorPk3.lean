/-
  Package pack: a Writer's fixed, Float, Complex.
-/
import Derived.Test.YtbipgkbnhpdmhaaDoorPk2
namespace Go.Proofs.YtbipgkbnhpdmhaaDoor
open Flo Go.RowKit
end Go.Proofs.YtbipgkbnhpdmhaaDoor
