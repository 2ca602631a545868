/-
  DERIVED. GIVEN WITH THE SEED: THE CARDS: each row of YtbljgmipfclcoabDoorRows.lean that lists a variable, with what it lists TIED to the program's text (the seventh form; the later family's looks); each row that meets fmt, with fmt's text TOLD by the authors' own Lean function (tested against real Go, not proved from fmt's source: count such statements apart). THE CARD IS WHAT COUNTS. Prove the row's statement (the work); the ties are given (YtbljgmipfclcoabDoorTie.lean); close each card by the builder's one call (the guide's Derived/Test/ToyasCard.lean, 'card_holds'). Laid BY PROGRAM, IN A SANDBOX (cutbox-door.mjs). By AI agents, Wed Nov 11 2026. No macro, syntax, notation, axiom, sorry.
-/
import Derived.Test.YtbljgmipfclcoabDoorRows
import GoSem.ClaimSeven
namespace Go.Proofs.YtbljgmipfclcoabDoor
namespace Rows

/-- THE TIED CARD OF 'timbrelaw07.RootsTwisted'. -/
def rootsTwistedCard : Claim7 := { stood := { row := rootsTwistedRow, standIns := [], harness := (true, "5aef57492c4b3d9ac47c9411397af82443a00600a0e01abf972a1610a4cf1e6c"), looks := false }, kinds := [], alts := [], laidByText := true, laidKinds := [.sentinel, .sentinel], laidTests := true, laidLooks := .later }
def RootsTwistedCardSaid : Prop := Claim7.holds Tryd.pinned (.plain (OpenSpec.ofChange rootsTwistedSpec)) rootsTwistedCard

/-- THE SECOND FORM's CARD OF 'timbrelaw07.RootsTwisted'. -/
def rootsTwistedUptoCard : Claim7 := { stood := { row := rootsTwistedUptoRow, standIns := [], harness := (true, "5aef57492c4b3d9ac47c9411397af82443a00600a0e01abf972a1610a4cf1e6c"), looks := false }, kinds := [], alts := [], laidByText := true, laidKinds := [.sentinel, .sentinel], laidTests := true, laidLooks := .later }
def RootsTwistedUptoCardSaid : Prop := Claim7.holds Tryd.pinned (.plain (OpenSpec.upto rootsTwistedSpec)) rootsTwistedUptoCard
end Rows
end Go.Proofs.YtbljgmipfclcoabDoor
