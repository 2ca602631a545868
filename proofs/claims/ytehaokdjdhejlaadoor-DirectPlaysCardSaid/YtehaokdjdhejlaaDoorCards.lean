/-
  DERIVED. GIVEN WITH THE SEED: THE CARDS: each row of YtehaokdjdhejlaaDoorRows.lean that lists a variable, with what it lists TIED to the program's text (the seventh form; the later family's looks); each row that meets fmt, with fmt's text TOLD by the authors' own Lean function (tested against real Go, not proved from fmt's source: count such statements apart). THE CARD IS WHAT COUNTS. Prove the row's statement (the work); the ties are given (YtehaokdjdhejlaaDoorTie.lean); close each card by the builder's one call (the guide's Derived/Test/ToyasCard.lean, 'card_holds'). Laid BY PROGRAM, IN A SANDBOX (cutbox-door.mjs). By AI agents, Wed Nov 11 2026. No macro, syntax, notation, axiom, sorry.
-/
import Derived.Test.YtehaokdjdhejlaaDoorRows
import GoSem.ClaimSeven
namespace Go.Proofs.YtehaokdjdhejlaaDoor
namespace Rows

/-- THE TIED CARD OF 'timbrelaw10.DirectPlays'. -/
def directPlaysCard : Claim7 := { stood := { row := directPlaysRow, standIns := [], harness := (true, "fc516b45a2fcd28905422b41c6032f6ffa74097d403a08fb39a5d77dd8e0ecc8"), looks := true }, kinds := [], alts := [], laidByText := true, laidKinds := [.sentinel, .sentinel, .sentinel, .sentinel, .sentinel, .sentinel, .sentinel, .sentinel, .sentinel, .sentinel, .sentinel, .sentinel, .sentinel, .sentinel, .sentinel, .sentinel, .sentinel, .sentinel, .sentinel], laidTests := true, laidLooks := .later }
def DirectPlaysCardSaid : Prop := Claim7.holds Tryd.pinned (.plain (OpenSpec.ofChange directPlaysSpec)) directPlaysCard

/-- THE TIED CARD OF 'timbrelaw10.DirectAt'. -/
def directAtCard : Claim7 := { stood := { row := directAtRow, standIns := [], harness := (true, "fc516b45a2fcd28905422b41c6032f6ffa74097d403a08fb39a5d77dd8e0ecc8"), looks := true }, kinds := [], alts := [], laidByText := true, laidKinds := [.sentinel, .sentinel, .sentinel, .sentinel, .sentinel, .sentinel, .sentinel, .sentinel, .sentinel, .sentinel, .sentinel, .sentinel, .sentinel, .sentinel, .sentinel, .sentinel, .sentinel, .sentinel, .sentinel], laidTests := true, laidLooks := .later }
def DirectAtCardSaid : Prop := Claim7.holds Tryd.pinned (.plain (OpenSpec.ofChange directAtSpec)) directAtCard

/-- THE TIED CARD OF 'timbrelaw10.DirectSpread'. -/
def directSpreadCard : Claim7 := { stood := { row := directSpreadRow, standIns := [], harness := (true, "fc516b45a2fcd28905422b41c6032f6ffa74097d403a08fb39a5d77dd8e0ecc8"), looks := true }, kinds := [], alts := [], laidByText := true, laidKinds := [.sentinel, .sentinel], laidTests := true, laidLooks := .later }
def DirectSpreadCardSaid : Prop := Claim7.holds Tryd.pinned (.plain (OpenSpec.ofChange directSpreadSpec)) directSpreadCard

/-- THE TIED CARD OF 'timbrelaw10.DirectWhole'. -/
def directWholeCard : Claim7 := { stood := { row := directWholeRow, standIns := [], harness := (true, "fc516b45a2fcd28905422b41c6032f6ffa74097d403a08fb39a5d77dd8e0ecc8"), looks := true }, kinds := [], alts := [], laidByText := true, laidKinds := [.sentinel, .sentinel], laidTests := true, laidLooks := .later }
def DirectWholeCardSaid : Prop := Claim7.holds Tryd.pinned (.plain (OpenSpec.ofChange directWholeSpec)) directWholeCard

/-- THE TIED CARD OF 'timbrelaw10.DirectTurned'. -/
def directTurnedCard : Claim7 := { stood := { row := directTurnedRow, standIns := [], harness := (true, "fc516b45a2fcd28905422b41c6032f6ffa74097d403a08fb39a5d77dd8e0ecc8"), looks := true }, kinds := [], alts := [], laidByText := true, laidKinds := [.sentinel, .sentinel], laidTests := true, laidLooks := .later }
def DirectTurnedCardSaid : Prop := Claim7.holds Tryd.pinned (.plain (OpenSpec.ofChange directTurnedSpec)) directTurnedCard

/-- THE SECOND FORM's CARD OF 'timbrelaw10.DirectPlays'. -/
def directPlaysUptoCard : Claim7 := { stood := { row := directPlaysUptoRow, standIns := [], harness := (true, "fc516b45a2fcd28905422b41c6032f6ffa74097d403a08fb39a5d77dd8e0ecc8"), looks := true }, kinds := [], alts := [], laidByText := true, laidKinds := [.sentinel, .sentinel, .sentinel, .sentinel, .sentinel, .sentinel, .sentinel, .sentinel, .sentinel, .sentinel, .sentinel, .sentinel, .sentinel, .sentinel, .sentinel, .sentinel, .sentinel, .sentinel, .sentinel], laidTests := true, laidLooks := .later }
def DirectPlaysUptoCardSaid : Prop := Claim7.holds Tryd.pinned (.plain (OpenSpec.upto directPlaysSpec)) directPlaysUptoCard

/-- THE SECOND FORM's CARD OF 'timbrelaw10.DirectAt'. -/
def directAtUptoCard : Claim7 := { stood := { row := directAtUptoRow, standIns := [], harness := (true, "fc516b45a2fcd28905422b41c6032f6ffa74097d403a08fb39a5d77dd8e0ecc8"), looks := true }, kinds := [], alts := [], laidByText := true, laidKinds := [.sentinel, .sentinel, .sentinel, .sentinel, .sentinel, .sentinel, .sentinel, .sentinel, .sentinel, .sentinel, .sentinel, .sentinel, .sentinel, .sentinel, .sentinel, .sentinel, .sentinel, .sentinel, .sentinel], laidTests := true, laidLooks := .later }
def DirectAtUptoCardSaid : Prop := Claim7.holds Tryd.pinned (.plain (OpenSpec.upto directAtSpec)) directAtUptoCard

/-- THE SECOND FORM's CARD OF 'timbrelaw10.DirectSpread'. -/
def directSpreadUptoCard : Claim7 := { stood := { row := directSpreadUptoRow, standIns := [], harness := (true, "fc516b45a2fcd28905422b41c6032f6ffa74097d403a08fb39a5d77dd8e0ecc8"), looks := true }, kinds := [], alts := [], laidByText := true, laidKinds := [.sentinel, .sentinel], laidTests := true, laidLooks := .later }
def DirectSpreadUptoCardSaid : Prop := Claim7.holds Tryd.pinned (.plain (OpenSpec.upto directSpreadSpec)) directSpreadUptoCard

/-- THE SECOND FORM's CARD OF 'timbrelaw10.DirectWhole'. -/
def directWholeUptoCard : Claim7 := { stood := { row := directWholeUptoRow, standIns := [], harness := (true, "fc516b45a2fcd28905422b41c6032f6ffa74097d403a08fb39a5d77dd8e0ecc8"), looks := true }, kinds := [], alts := [], laidByText := true, laidKinds := [.sentinel, .sentinel], laidTests := true, laidLooks := .later }
def DirectWholeUptoCardSaid : Prop := Claim7.holds Tryd.pinned (.plain (OpenSpec.upto directWholeSpec)) directWholeUptoCard

/-- THE SECOND FORM's CARD OF 'timbrelaw10.DirectTurned'. -/
def directTurnedUptoCard : Claim7 := { stood := { row := directTurnedUptoRow, standIns := [], harness := (true, "fc516b45a2fcd28905422b41c6032f6ffa74097d403a08fb39a5d77dd8e0ecc8"), looks := true }, kinds := [], alts := [], laidByText := true, laidKinds := [.sentinel, .sentinel], laidTests := true, laidLooks := .later }
def DirectTurnedUptoCardSaid : Prop := Claim7.holds Tryd.pinned (.plain (OpenSpec.upto directTurnedSpec)) directTurnedUptoCard
end Rows
end Go.Proofs.YtehaokdjdhejlaaDoor
