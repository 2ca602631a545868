/-
  DERIVED. GIVEN WITH THE SEED: THE CARDS: each row of YtkgecgkjmikihabDoorRows.lean that lists a variable, with what it lists TIED to the program's text (the seventh form; the later family's looks); each row that meets fmt, with fmt's text TOLD by the authors' own Lean function (tested against real Go, not proved from fmt's source: count such statements apart). THE CARD IS WHAT COUNTS. Prove the row's statement (the work); the ties are given (YtkgecgkjmikihabDoorTie.lean); close each card by the builder's one call (the guide's Derived/Test/ToyasCard.lean, 'card_holds'). Laid BY PROGRAM, IN A SANDBOX (cutbox-door.mjs). By AI agents, Wed Nov 11 2026. No macro, syntax, notation, axiom, sorry.
-/
import Derived.Test.YtkgecgkjmikihabDoorRows
import GoSem.ClaimSeven
namespace Go.Proofs.YtkgecgkjmikihabDoor
namespace Rows

/-- THE TIED CARD OF 'timbrelaw05.PrimesRoots'. -/
def primesRootsCard : Claim7 := { stood := { row := primesRootsRow, standIns := [], harness := (true, "b39c659c062f1ec2dbc9a3672226443315a4ecaefcedd20bdcb16b9ccce62111"), looks := true }, kinds := [], alts := [], laidByText := true, laidKinds := [.sentinel, .sentinel, .sentinel, .sentinel, .sentinel, .sentinel, .sentinel, .sentinel, .sentinel, .sentinel, .sentinel, .sentinel, .sentinel, .sentinel, .sentinel, .sentinel, .sentinel, .sentinel, .sentinel], laidTests := true, laidLooks := .later }
def PrimesRootsCardSaid : Prop := Claim7.holds Tryd.pinned (.plain (OpenSpec.ofChange primesRootsSpec)) primesRootsCard

/-- THE TIED CARD OF 'timbrelaw05.PrimesJoins'. -/
def primesJoinsCard : Claim7 := { stood := { row := primesJoinsRow, standIns := [], harness := (true, "b39c659c062f1ec2dbc9a3672226443315a4ecaefcedd20bdcb16b9ccce62111"), looks := true }, kinds := [], alts := [], laidByText := true, laidKinds := [.sentinel, .sentinel, .sentinel, .sentinel, .sentinel, .sentinel, .sentinel, .sentinel, .sentinel, .sentinel, .sentinel, .sentinel, .sentinel, .sentinel, .sentinel, .sentinel, .sentinel, .sentinel, .sentinel], laidTests := true, laidLooks := .later }
def PrimesJoinsCardSaid : Prop := Claim7.holds Tryd.pinned (.plain (OpenSpec.ofChange primesJoinsSpec)) primesJoinsCard

/-- THE TIED CARD OF 'timbrelaw05.PrimesMemory'. -/
def primesMemoryCard : Claim7 := { stood := { row := primesMemoryRow, standIns := [], harness := (true, "b39c659c062f1ec2dbc9a3672226443315a4ecaefcedd20bdcb16b9ccce62111"), looks := true }, kinds := [], alts := [], laidByText := true, laidKinds := [.sentinel, .sentinel], laidTests := true, laidLooks := .later }
def PrimesMemoryCardSaid : Prop := Claim7.holds Tryd.pinned (.plain (OpenSpec.ofChange primesMemorySpec)) primesMemoryCard

/-- THE SECOND FORM's CARD OF 'timbrelaw05.PrimesRoots'. -/
def primesRootsUptoCard : Claim7 := { stood := { row := primesRootsUptoRow, standIns := [], harness := (true, "b39c659c062f1ec2dbc9a3672226443315a4ecaefcedd20bdcb16b9ccce62111"), looks := true }, kinds := [], alts := [], laidByText := true, laidKinds := [.sentinel, .sentinel, .sentinel, .sentinel, .sentinel, .sentinel, .sentinel, .sentinel, .sentinel, .sentinel, .sentinel, .sentinel, .sentinel, .sentinel, .sentinel, .sentinel, .sentinel, .sentinel, .sentinel], laidTests := true, laidLooks := .later }
def PrimesRootsUptoCardSaid : Prop := Claim7.holds Tryd.pinned (.plain (OpenSpec.upto primesRootsSpec)) primesRootsUptoCard

/-- THE SECOND FORM's CARD OF 'timbrelaw05.PrimesJoins'. -/
def primesJoinsUptoCard : Claim7 := { stood := { row := primesJoinsUptoRow, standIns := [], harness := (true, "b39c659c062f1ec2dbc9a3672226443315a4ecaefcedd20bdcb16b9ccce62111"), looks := true }, kinds := [], alts := [], laidByText := true, laidKinds := [.sentinel, .sentinel, .sentinel, .sentinel, .sentinel, .sentinel, .sentinel, .sentinel, .sentinel, .sentinel, .sentinel, .sentinel, .sentinel, .sentinel, .sentinel, .sentinel, .sentinel, .sentinel, .sentinel], laidTests := true, laidLooks := .later }
def PrimesJoinsUptoCardSaid : Prop := Claim7.holds Tryd.pinned (.plain (OpenSpec.upto primesJoinsSpec)) primesJoinsUptoCard

/-- THE SECOND FORM's CARD OF 'timbrelaw05.PrimesMemory'. -/
def primesMemoryUptoCard : Claim7 := { stood := { row := primesMemoryUptoRow, standIns := [], harness := (true, "b39c659c062f1ec2dbc9a3672226443315a4ecaefcedd20bdcb16b9ccce62111"), looks := true }, kinds := [], alts := [], laidByText := true, laidKinds := [.sentinel, .sentinel], laidTests := true, laidLooks := .later }
def PrimesMemoryUptoCardSaid : Prop := Claim7.holds Tryd.pinned (.plain (OpenSpec.upto primesMemorySpec)) primesMemoryUptoCard
end Rows
end Go.Proofs.YtkgecgkjmikihabDoor
