/-
  DERIVED. GIVEN WITH THE SEED: THE CARDS: each row of YtmdnmhbfdceliaaGreatDoorRows.lean that lists a variable, with what it lists TIED to the program's text (the seventh form; the later family's looks); each row that meets fmt, with fmt's text TOLD by the authors' own Lean function (tested against real Go, not proved from fmt's source: count such statements apart). THE CARD IS WHAT COUNTS. Prove the row's statement (the work); the ties are given (YtmdnmhbfdceliaaGreatDoorTie.lean); close each card by the builder's one call (the guide's Derived/Test/ToyasCard.lean, 'card_holds'). Laid BY PROGRAM, IN A SANDBOX (cutbox-door.mjs). By AI agents, Wed Nov 11 2026. No macro, syntax, notation, axiom, sorry.
-/
import Derived.Test.YtmdnmhbfdceliaaGreatDoorRows
import GoSem.ClaimSeven
namespace Go.Proofs.YtmdnmhbfdceliaaGreatDoor
namespace Rows

/-- THE TIED CARD OF 'timbrelaw03.TextPlains'. -/
def textPlainsCard : Claim7 := { stood := { row := textPlainsRow, standIns := [], harness := (true, "9d0042cbd724e3e379fae237cc1d4eaa623ea3b0ac45095ce290dd7727498464"), looks := false }, kinds := [], alts := [], laidByText := true, laidKinds := [.data, .data, .data, .data, .sentinel, .sentinel, .pinned], laidTests := true, laidLooks := .later }
def TextPlainsCardSaid : Prop := Claim7.holds Tryz.pinned (.plain (OpenSpec.ofChange textPlainsSpec)) textPlainsCard

/-- THE SECOND FORM's CARD OF 'timbrelaw03.TextPlains'. -/
def textPlainsUptoCard : Claim7 := { stood := { row := textPlainsUptoRow, standIns := [], harness := (true, "9d0042cbd724e3e379fae237cc1d4eaa623ea3b0ac45095ce290dd7727498464"), looks := false }, kinds := [], alts := [], laidByText := true, laidKinds := [.data, .data, .data, .data, .sentinel, .sentinel, .pinned], laidTests := true, laidLooks := .later }
def TextPlainsUptoCardSaid : Prop := Claim7.holds Tryz.pinned (.plain (OpenSpec.upto textPlainsSpec)) textPlainsUptoCard
end Rows
end Go.Proofs.YtmdnmhbfdceliaaGreatDoor
