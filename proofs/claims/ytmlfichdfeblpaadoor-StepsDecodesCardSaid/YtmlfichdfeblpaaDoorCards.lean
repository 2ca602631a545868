/-
  DERIVED. GIVEN WITH THE SEED: THE CARDS: each row of YtmlfichdfeblpaaDoorRows.lean that lists a variable, with what it lists TIED to the program's text (the seventh form; the later family's looks); each row that meets fmt, with fmt's text TOLD by the authors' own Lean function (tested against real Go, not proved from fmt's source: count such statements apart). THE CARD IS WHAT COUNTS. Prove the row's statement (the work); the ties are given (YtmlfichdfeblpaaDoorTie.lean); close each card by the builder's one call (the guide's Derived/Test/ToyasCard.lean, 'card_holds'). Laid BY PROGRAM, IN A SANDBOX (cutbox-door.mjs). By AI agents, Wed Nov 11 2026. No macro, syntax, notation, axiom, sorry.
-/
import Derived.Test.YtmlfichdfeblpaaDoorRows
import GoSem.ClaimSeven
namespace Go.Proofs.YtmlfichdfeblpaaDoor
namespace Rows

/-- THE TIED CARD OF 'timbrelaw15.StepsDecodes'. -/
def stepsDecodesCard : Claim7 := { stood := { row := stepsDecodesRow, standIns := [], harness := (true, "f956a6bb7fc9d3c20fa315f99188adf41085bdf8eecbdec77b8632c521818173"), looks := true }, kinds := [], alts := [], laidByText := true, laidKinds := [.sentinel, .sentinel, .sentinel, .sentinel, .sentinel, .sentinel, .sentinel, .sentinel, .sentinel, .sentinel, .sentinel, .sentinel, .sentinel, .sentinel, .sentinel, .sentinel, .sentinel, .sentinel, .sentinel, .wider], laidTests := true, laidLooks := .later }
def StepsDecodesCardSaid : Prop := Claim7.holds Tryd.pinned (.plain (OpenSpec.ofChange stepsDecodesSpec)) stepsDecodesCard

/-- THE SECOND FORM's CARD OF 'timbrelaw15.StepsDecodes'. -/
def stepsDecodesUptoCard : Claim7 := { stood := { row := stepsDecodesUptoRow, standIns := [], harness := (true, "f956a6bb7fc9d3c20fa315f99188adf41085bdf8eecbdec77b8632c521818173"), looks := true }, kinds := [], alts := [], laidByText := true, laidKinds := [.sentinel, .sentinel, .sentinel, .sentinel, .sentinel, .sentinel, .sentinel, .sentinel, .sentinel, .sentinel, .sentinel, .sentinel, .sentinel, .sentinel, .sentinel, .sentinel, .sentinel, .sentinel, .sentinel, .wider], laidTests := true, laidLooks := .later }
def StepsDecodesUptoCardSaid : Prop := Claim7.holds Tryd.pinned (.plain (OpenSpec.upto stepsDecodesSpec)) stepsDecodesUptoCard
end Rows
end Go.Proofs.YtmlfichdfeblpaaDoor
