/-
  DERIVED. GIVEN WITH THE SEED: THE CARDS: each row of YtmfnjmgdindlaaaDoorRows.lean that lists a variable, with what it lists TIED to the program's text (the seventh form; the later family's looks); each row that meets fmt, with fmt's text TOLD by the authors' own Lean function (tested against real Go, not proved from fmt's source: count such statements apart). THE CARD IS WHAT COUNTS. Prove the row's statement (the work); the ties are given (YtmfnjmgdindlaaaDoorTie.lean); close each card by the builder's one call (the guide's Derived/Test/ToyasCard.lean, 'card_holds'). Laid BY PROGRAM, IN A SANDBOX (cutbox-door.mjs). By AI agents, Wed Nov 11 2026. No macro, syntax, notation, axiom, sorry.
-/
import Derived.Test.YtmfnjmgdindlaaaDoorRows
import GoSem.ClaimSeven
namespace Go.Proofs.YtmfnjmgdindlaaaDoor
namespace Rows

/-- THE TIED CARD OF 'timbrelaw03.TextShortest'. -/
def textShortestCard : Claim7 := { stood := { row := textShortestRow, standIns := [], harness := (true, "b6eae564491cfed8f73f2475e8f76ddb96a8bd128a491f93c83475a52f91e2c3"), looks := false }, kinds := [], alts := [], laidByText := true, laidKinds := [.data, .data, .data, .data, .sentinel, .sentinel, .pinned], laidTests := true, laidLooks := .later }
def TextShortestCardSaid : Prop := Claim7.holds Tryd.pinned (.plain (OpenSpec.ofChange textShortestSpec)) textShortestCard

/-- THE SECOND FORM's CARD OF 'timbrelaw03.TextShortest'. -/
def textShortestUptoCard : Claim7 := { stood := { row := textShortestUptoRow, standIns := [], harness := (true, "b6eae564491cfed8f73f2475e8f76ddb96a8bd128a491f93c83475a52f91e2c3"), looks := false }, kinds := [], alts := [], laidByText := true, laidKinds := [.data, .data, .data, .data, .sentinel, .sentinel, .pinned], laidTests := true, laidLooks := .later }
def TextShortestUptoCardSaid : Prop := Claim7.holds Tryd.pinned (.plain (OpenSpec.upto textShortestSpec)) textShortestUptoCard
end Rows
end Go.Proofs.YtmfnjmgdindlaaaDoor
