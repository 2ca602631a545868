/-
  DERIVED. GIVEN WITH THE SEED: THE CARDS: each row of YtbipgkbnhpdmhabDoorRows.lean that lists a variable, with what it lists TIED to the program's text (the seventh form; the later family's looks); each row that meets fmt, with fmt's text TOLD by the authors' own Lean function (tested against real Go, not proved from fmt's source: count such statements apart). THE CARD IS WHAT COUNTS. Prove the row's statement (the work); the ties are given (YtbipgkbnhpdmhabDoorTie.lean); close each card by the builder's one call (the guide's Derived/Test/ToyasCard.lean, 'card_holds'). Laid BY PROGRAM, IN A SANDBOX (cutbox-door.mjs). By AI agents, Wed Nov 11 2026. No macro, syntax, notation, axiom, sorry.
-/
import Derived.Test.YtbipgkbnhpdmhabDoorRows
import GoSem.ClaimSeven
namespace Go.Proofs.YtbipgkbnhpdmhabDoor
namespace Rows

/-- THE TIED CARD OF 'timbrelaw15.StepsSame'. -/
def stepsSameCard : Claim7 := { stood := { row := stepsSameRow, standIns := [], harness := (true, "203028dbb4982b76979d106ebb5ca50f648f04c9fcfc7364437ca355beccf42d"), looks := false }, kinds := [], alts := [], laidByText := true, laidKinds := [.sentinel, .sentinel, .sentinel, .sentinel, .sentinel, .wider], laidTests := true, laidLooks := .later }
def StepsSameCardSaid : Prop := Claim7.holds Tryd.pinned (.plain (OpenSpec.ofChange stepsSameSpec)) stepsSameCard

/-- THE SECOND FORM's CARD OF 'timbrelaw15.StepsSame'. -/
def stepsSameUptoCard : Claim7 := { stood := { row := stepsSameUptoRow, standIns := [], harness := (true, "203028dbb4982b76979d106ebb5ca50f648f04c9fcfc7364437ca355beccf42d"), looks := false }, kinds := [], alts := [], laidByText := true, laidKinds := [.sentinel, .sentinel, .sentinel, .sentinel, .sentinel, .wider], laidTests := true, laidLooks := .later }
def StepsSameUptoCardSaid : Prop := Claim7.holds Tryd.pinned (.plain (OpenSpec.upto stepsSameSpec)) stepsSameUptoCard
end Rows
end Go.Proofs.YtbipgkbnhpdmhabDoor
