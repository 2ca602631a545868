/-
  DERIVED. GIVEN WITH THE SEED: THE CARDS: each row of YtfoblbpbhldngaaDoorRows.lean that lists a variable, with what it lists TIED to the program's text (the seventh form; the later family's looks); each row that meets fmt, with fmt's text TOLD by the authors' own Lean function (tested against real Go, not proved from fmt's source: count such statements apart). THE CARD IS WHAT COUNTS. Prove the row's statement (the work); the ties are given (YtfoblbpbhldngaaDoorTie.lean); close each card by the builder's one call (the guide's Derived/Test/ToyasCard.lean, 'card_holds'). Laid BY PROGRAM, IN A SANDBOX (cutbox-door.mjs). By AI agents, Wed Nov 11 2026. No macro, syntax, notation, axiom, sorry.
-/
import Derived.Test.YtfoblbpbhldngaaDoorRows
import GoSem.ClaimSeven
namespace Go.Proofs.YtfoblbpbhldngaaDoor
namespace Rows

/-- THE TIED CARD OF 'timbrelaw12.OrderParses'. -/
def orderParsesCard : Claim7 := { stood := { row := orderParsesRow, standIns := [], harness := (true, "2d6170d733bd514bf2c95e6514e81862fcb3dd91acbbe1f100e232ba4fd8daab"), looks := true }, kinds := [], alts := [], laidByText := true, laidKinds := [.data, .data, .data, .sentinel, .sentinel, .sentinel, .sentinel, .sentinel, .sentinel, .sentinel, .sentinel, .sentinel, .sentinel, .sentinel, .sentinel, .sentinel, .sentinel, .sentinel, .sentinel, .sentinel, .sentinel, .sentinel], laidTests := true, laidLooks := .later }
def OrderParsesCardSaid : Prop := Claim7.holds Tryd.pinned (.plain (OpenSpec.ofChange orderParsesSpec)) orderParsesCard

/-- THE TIED CARD OF 'timbrelaw12.OrderOwns'. -/
def orderOwnsCard : Claim7 := { stood := { row := orderOwnsRow, standIns := [], harness := (true, "2d6170d733bd514bf2c95e6514e81862fcb3dd91acbbe1f100e232ba4fd8daab"), looks := true }, kinds := [], alts := [], laidByText := true, laidKinds := [.data, .data, .data, .sentinel, .sentinel, .sentinel], laidTests := true, laidLooks := .later }
def OrderOwnsCardSaid : Prop := Claim7.holds Tryd.pinned (.plain (OpenSpec.ofChange orderOwnsSpec)) orderOwnsCard

/-- THE SECOND FORM's CARD OF 'timbrelaw12.OrderParses'. -/
def orderParsesUptoCard : Claim7 := { stood := { row := orderParsesUptoRow, standIns := [], harness := (true, "2d6170d733bd514bf2c95e6514e81862fcb3dd91acbbe1f100e232ba4fd8daab"), looks := true }, kinds := [], alts := [], laidByText := true, laidKinds := [.data, .data, .data, .sentinel, .sentinel, .sentinel, .sentinel, .sentinel, .sentinel, .sentinel, .sentinel, .sentinel, .sentinel, .sentinel, .sentinel, .sentinel, .sentinel, .sentinel, .sentinel, .sentinel, .sentinel, .sentinel], laidTests := true, laidLooks := .later }
def OrderParsesUptoCardSaid : Prop := Claim7.holds Tryd.pinned (.plain (OpenSpec.upto orderParsesSpec)) orderParsesUptoCard

/-- THE SECOND FORM's CARD OF 'timbrelaw12.OrderOwns'. -/
def orderOwnsUptoCard : Claim7 := { stood := { row := orderOwnsUptoRow, standIns := [], harness := (true, "2d6170d733bd514bf2c95e6514e81862fcb3dd91acbbe1f100e232ba4fd8daab"), looks := true }, kinds := [], alts := [], laidByText := true, laidKinds := [.data, .data, .data, .sentinel, .sentinel, .sentinel], laidTests := true, laidLooks := .later }
def OrderOwnsUptoCardSaid : Prop := Claim7.holds Tryd.pinned (.plain (OpenSpec.upto orderOwnsSpec)) orderOwnsUptoCard
end Rows
end Go.Proofs.YtfoblbpbhldngaaDoor
