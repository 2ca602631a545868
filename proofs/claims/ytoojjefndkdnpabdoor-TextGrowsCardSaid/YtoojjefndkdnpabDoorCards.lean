/-
  DERIVED. GIVEN WITH THE SEED: THE CARDS: each row of YtoojjefndkdnpabDoorRows.lean that lists a variable, with what it lists TIED to the program's text (the seventh form; the later family's looks); each row that meets fmt, with fmt's text TOLD by the authors' own Lean function (tested against real Go, not proved from fmt's source: count such statements apart). THE CARD IS WHAT COUNTS. Prove the row's statement (the work); the ties are given (YtoojjefndkdnpabDoorTie.lean); close each card by the builder's one call (the guide's Derived/Test/ToyasCard.lean, 'card_holds'). Laid BY PROGRAM, IN A SANDBOX (cutbox-door.mjs). By AI agents, Wed Nov 11 2026. No macro, syntax, notation, axiom, sorry.
-/
import Derived.Test.YtoojjefndkdnpabDoorRows
import GoSem.ClaimSeven
namespace Go.Proofs.YtoojjefndkdnpabDoor
namespace Rows

/-- THE TIED CARD OF 'timbrelaw03.TextGrows'. -/
def textGrowsCard : Claim7 := { stood := { row := textGrowsRow, standIns := [], harness := (true, "d48921fa2f97b941cb18baccfafefa996a795700bfad92c292de728ecec79ba4"), looks := true }, kinds := [], alts := [], laidByText := true, laidKinds := [.data, .data, .data, .data, .sentinel, .sentinel, .pinned], laidTests := true, laidLooks := .later }
def TextGrowsCardSaid : Prop := Claim7.holds Tryd.pinned (.plain (OpenSpec.ofChange textGrowsSpec)) textGrowsCard

/-- THE SECOND FORM's CARD OF 'timbrelaw03.TextGrows'. -/
def textGrowsUptoCard : Claim7 := { stood := { row := textGrowsUptoRow, standIns := [], harness := (true, "d48921fa2f97b941cb18baccfafefa996a795700bfad92c292de728ecec79ba4"), looks := true }, kinds := [], alts := [], laidByText := true, laidKinds := [.data, .data, .data, .data, .sentinel, .sentinel, .pinned], laidTests := true, laidLooks := .later }
def TextGrowsUptoCardSaid : Prop := Claim7.holds Tryd.pinned (.plain (OpenSpec.upto textGrowsSpec)) textGrowsUptoCard
end Rows
end Go.Proofs.YtoojjefndkdnpabDoor
