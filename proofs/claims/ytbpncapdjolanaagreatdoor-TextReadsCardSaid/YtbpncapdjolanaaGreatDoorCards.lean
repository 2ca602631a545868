/-
  DERIVED. GIVEN WITH THE SEED: THE CARDS: each row of YtbpncapdjolanaaGreatDoorRows.lean that lists a variable, with what it lists TIED to the program's text (the seventh form; the later family's looks); each row that meets fmt, with fmt's text TOLD by the authors' own Lean function (tested against real Go, not proved from fmt's source: count such statements apart). THE CARD IS WHAT COUNTS. Prove the row's statement (the work); the ties are given (YtbpncapdjolanaaGreatDoorTie.lean); close each card by the builder's one call (the guide's Derived/Test/ToyasCard.lean, 'card_holds'). Laid BY PROGRAM, IN A SANDBOX (cutbox-door.mjs). By AI agents, Wed Nov 11 2026. No macro, syntax, notation, axiom, sorry.
-/
import Derived.Test.YtbpncapdjolanaaGreatDoorRows
import GoSem.ClaimSeven
namespace Go.Proofs.YtbpncapdjolanaaGreatDoor
namespace Rows

/-- THE TIED CARD OF 'timbrelaw03.TextPlains'. -/
def textPlainsCard : Claim7 := { stood := { row := textPlainsRow, standIns := [], harness := (true, "17a57326bb48c9b3760d65ef0f160ddaa4f3fc700ca6458bfea7773b4fcf1f02"), looks := true }, kinds := [], alts := [], laidByText := true, laidKinds := [.data, .data, .data, .data, .sentinel, .sentinel, .pinned], laidTests := true, laidLooks := .later }
def TextPlainsCardSaid : Prop := Claim7.holds Tryz.pinned (.plain (OpenSpec.ofChange textPlainsSpec)) textPlainsCard

/-- THE TIED CARD OF 'timbrelaw03.TextReads'. -/
def textReadsCard : Claim7 := { stood := { row := textReadsRow, standIns := [], harness := (true, "17a57326bb48c9b3760d65ef0f160ddaa4f3fc700ca6458bfea7773b4fcf1f02"), looks := true }, kinds := [], alts := [], laidByText := true, laidKinds := [.data, .data, .data, .data, .sentinel, .sentinel, .sentinel, .sentinel, .sentinel, .sentinel, .sentinel, .sentinel, .sentinel, .sentinel, .sentinel, .sentinel, .sentinel, .sentinel, .sentinel, .sentinel, .sentinel, .sentinel, .sentinel, .pinned], laidTests := true, laidLooks := .later }
def TextReadsCardSaid : Prop := Claim7.holds Tryz.pinned (.plain (OpenSpec.ofChange textReadsSpec)) textReadsCard

/-- THE SECOND FORM's CARD OF 'timbrelaw03.TextPlains'. -/
def textPlainsUptoCard : Claim7 := { stood := { row := textPlainsUptoRow, standIns := [], harness := (true, "17a57326bb48c9b3760d65ef0f160ddaa4f3fc700ca6458bfea7773b4fcf1f02"), looks := true }, kinds := [], alts := [], laidByText := true, laidKinds := [.data, .data, .data, .data, .sentinel, .sentinel, .pinned], laidTests := true, laidLooks := .later }
def TextPlainsUptoCardSaid : Prop := Claim7.holds Tryz.pinned (.plain (OpenSpec.upto textPlainsSpec)) textPlainsUptoCard

/-- THE SECOND FORM's CARD OF 'timbrelaw03.TextReads'. -/
def textReadsUptoCard : Claim7 := { stood := { row := textReadsUptoRow, standIns := [], harness := (true, "17a57326bb48c9b3760d65ef0f160ddaa4f3fc700ca6458bfea7773b4fcf1f02"), looks := true }, kinds := [], alts := [], laidByText := true, laidKinds := [.data, .data, .data, .data, .sentinel, .sentinel, .sentinel, .sentinel, .sentinel, .sentinel, .sentinel, .sentinel, .sentinel, .sentinel, .sentinel, .sentinel, .sentinel, .sentinel, .sentinel, .sentinel, .sentinel, .sentinel, .sentinel, .pinned], laidTests := true, laidLooks := .later }
def TextReadsUptoCardSaid : Prop := Claim7.holds Tryz.pinned (.plain (OpenSpec.upto textReadsSpec)) textReadsUptoCard
end Rows
end Go.Proofs.YtbpncapdjolanaaGreatDoor
