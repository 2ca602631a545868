/-
  The document's text, Text.
-/
import Derived.Test.YtfoblbpbhldngaaDoorOd5
import Derived.Deep.RegionHeld3
namespace Go.Proofs.YtfoblbpbhldngaaDoor
open Flo Go.RowKit Tr
open Lib (decDigits)
/-- what Text tells -/
def txr (t : Tr) : ByteArray := if len t = 0 then ⟨#[]⟩ else Bt (tx t)
end Go.Proofs.YtfoblbpbhldngaaDoor
