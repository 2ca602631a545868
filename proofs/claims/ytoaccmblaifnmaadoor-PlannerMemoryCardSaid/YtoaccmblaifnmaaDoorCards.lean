/-
  DERIVED. GIVEN WITH THE SEED: THE CARDS: each row of YtoaccmblaifnmaaDoorRows.lean that lists a variable, with what it lists TIED to the program's text (the seventh form; the later family's looks); each row that meets fmt, with fmt's text TOLD by the authors' own Lean function (tested against real Go, not proved from fmt's source: count such statements apart). THE CARD IS WHAT COUNTS. Prove the row's statement (the work); the ties are given (YtoaccmblaifnmaaDoorTie.lean); close each card by the builder's one call (the guide's Derived/Test/ToyasCard.lean, 'card_holds'). Laid BY PROGRAM, IN A SANDBOX (cutbox-door.mjs). By AI agents, Wed Nov 11 2026. No macro, syntax, notation, axiom, sorry.
-/
import Derived.Test.YtoaccmblaifnmaaDoorRows
import GoSem.ClaimSeven
namespace Go.Proofs.YtoaccmblaifnmaaDoor
namespace Rows

/-- THE TIED CARD OF 'timbrelaw12.OrderOwns'. -/
def orderOwnsCard : Claim7 := { stood := { row := orderOwnsRow, standIns := [], harness := (true, "b8da52d6a564932d25e5932aa7173542e181cd20aa75fef25bce603f23f6a341"), looks := true }, kinds := [], alts := [], laidByText := true, laidKinds := [.data, .data, .data, .sentinel, .sentinel, .sentinel], laidTests := true, laidLooks := .later }
def OrderOwnsCardSaid : Prop := Claim7.holds Tryd.pinned (.plain (OpenSpec.ofChange orderOwnsSpec)) orderOwnsCard

/-- THE TIED CARD OF 'timbrelaw14.PlannerChooses'. -/
def plannerChoosesCard : Claim7 := { stood := { row := plannerChoosesRow, standIns := [], harness := (true, "b8da52d6a564932d25e5932aa7173542e181cd20aa75fef25bce603f23f6a341"), looks := true }, kinds := [], alts := [], laidByText := true, laidKinds := [.sentinel, .sentinel, .sentinel, .sentinel, .sentinel, .sentinel, .sentinel, .sentinel, .sentinel, .sentinel, .sentinel, .sentinel, .sentinel, .sentinel, .sentinel, .sentinel, .sentinel, .sentinel, .sentinel], laidTests := true, laidLooks := .later }
def PlannerChoosesCardSaid : Prop := Claim7.holds Tryd.pinned (.plain (OpenSpec.ofChange plannerChoosesSpec)) plannerChoosesCard

/-- THE TIED CARD OF 'timbrelaw14.PlannerLists'. -/
def plannerListsCard : Claim7 := { stood := { row := plannerListsRow, standIns := [], harness := (true, "b8da52d6a564932d25e5932aa7173542e181cd20aa75fef25bce603f23f6a341"), looks := true }, kinds := [], alts := [], laidByText := true, laidKinds := [.sentinel, .sentinel, .sentinel, .sentinel], laidTests := true, laidLooks := .later }
def PlannerListsCardSaid : Prop := Claim7.holds Tryd.pinned (.plain (OpenSpec.ofChange plannerListsSpec)) plannerListsCard

/-- THE TIED CARD OF 'timbrelaw14.PlannerBest'. -/
def plannerBestCard : Claim7 := { stood := { row := plannerBestRow, standIns := [], harness := (true, "b8da52d6a564932d25e5932aa7173542e181cd20aa75fef25bce603f23f6a341"), looks := true }, kinds := [], alts := [], laidByText := true, laidKinds := [.sentinel, .sentinel, .sentinel, .sentinel, .sentinel, .sentinel, .sentinel, .sentinel, .sentinel, .sentinel, .sentinel, .sentinel, .sentinel, .sentinel, .sentinel, .sentinel, .sentinel, .sentinel, .sentinel], laidTests := true, laidLooks := .later }
def PlannerBestCardSaid : Prop := Claim7.holds Tryd.pinned (.plain (OpenSpec.ofChange plannerBestSpec)) plannerBestCard

/-- THE TIED CARD OF 'timbrelaw14.PlannerMemory'. -/
def plannerMemoryCard : Claim7 := { stood := { row := plannerMemoryRow, standIns := [], harness := (true, "b8da52d6a564932d25e5932aa7173542e181cd20aa75fef25bce603f23f6a341"), looks := true }, kinds := [], alts := [], laidByText := true, laidKinds := [.sentinel, .sentinel, .sentinel, .sentinel, .sentinel, .sentinel, .sentinel, .sentinel, .sentinel, .sentinel, .sentinel, .sentinel, .sentinel, .sentinel, .sentinel, .sentinel, .sentinel, .sentinel, .sentinel], laidTests := true, laidLooks := .later }
def PlannerMemoryCardSaid : Prop := Claim7.holds Tryd.pinned (.plain (OpenSpec.ofChange plannerMemorySpec)) plannerMemoryCard

/-- THE SECOND FORM's CARD OF 'timbrelaw12.OrderOwns'. -/
def orderOwnsUptoCard : Claim7 := { stood := { row := orderOwnsUptoRow, standIns := [], harness := (true, "b8da52d6a564932d25e5932aa7173542e181cd20aa75fef25bce603f23f6a341"), looks := true }, kinds := [], alts := [], laidByText := true, laidKinds := [.data, .data, .data, .sentinel, .sentinel, .sentinel], laidTests := true, laidLooks := .later }
def OrderOwnsUptoCardSaid : Prop := Claim7.holds Tryd.pinned (.plain (OpenSpec.upto orderOwnsSpec)) orderOwnsUptoCard

/-- THE SECOND FORM's CARD OF 'timbrelaw14.PlannerChooses'. -/
def plannerChoosesUptoCard : Claim7 := { stood := { row := plannerChoosesUptoRow, standIns := [], harness := (true, "b8da52d6a564932d25e5932aa7173542e181cd20aa75fef25bce603f23f6a341"), looks := true }, kinds := [], alts := [], laidByText := true, laidKinds := [.sentinel, .sentinel, .sentinel, .sentinel, .sentinel, .sentinel, .sentinel, .sentinel, .sentinel, .sentinel, .sentinel, .sentinel, .sentinel, .sentinel, .sentinel, .sentinel, .sentinel, .sentinel, .sentinel], laidTests := true, laidLooks := .later }
def PlannerChoosesUptoCardSaid : Prop := Claim7.holds Tryd.pinned (.plain (OpenSpec.upto plannerChoosesSpec)) plannerChoosesUptoCard

/-- THE SECOND FORM's CARD OF 'timbrelaw14.PlannerLists'. -/
def plannerListsUptoCard : Claim7 := { stood := { row := plannerListsUptoRow, standIns := [], harness := (true, "b8da52d6a564932d25e5932aa7173542e181cd20aa75fef25bce603f23f6a341"), looks := true }, kinds := [], alts := [], laidByText := true, laidKinds := [.sentinel, .sentinel, .sentinel, .sentinel], laidTests := true, laidLooks := .later }
def PlannerListsUptoCardSaid : Prop := Claim7.holds Tryd.pinned (.plain (OpenSpec.upto plannerListsSpec)) plannerListsUptoCard

/-- THE SECOND FORM's CARD OF 'timbrelaw14.PlannerBest'. -/
def plannerBestUptoCard : Claim7 := { stood := { row := plannerBestUptoRow, standIns := [], harness := (true, "b8da52d6a564932d25e5932aa7173542e181cd20aa75fef25bce603f23f6a341"), looks := true }, kinds := [], alts := [], laidByText := true, laidKinds := [.sentinel, .sentinel, .sentinel, .sentinel, .sentinel, .sentinel, .sentinel, .sentinel, .sentinel, .sentinel, .sentinel, .sentinel, .sentinel, .sentinel, .sentinel, .sentinel, .sentinel, .sentinel, .sentinel], laidTests := true, laidLooks := .later }
def PlannerBestUptoCardSaid : Prop := Claim7.holds Tryd.pinned (.plain (OpenSpec.upto plannerBestSpec)) plannerBestUptoCard

/-- THE SECOND FORM's CARD OF 'timbrelaw14.PlannerMemory'. -/
def plannerMemoryUptoCard : Claim7 := { stood := { row := plannerMemoryUptoRow, standIns := [], harness := (true, "b8da52d6a564932d25e5932aa7173542e181cd20aa75fef25bce603f23f6a341"), looks := true }, kinds := [], alts := [], laidByText := true, laidKinds := [.sentinel, .sentinel, .sentinel, .sentinel, .sentinel, .sentinel, .sentinel, .sentinel, .sentinel, .sentinel, .sentinel, .sentinel, .sentinel, .sentinel, .sentinel, .sentinel, .sentinel, .sentinel, .sentinel], laidTests := true, laidLooks := .later }
def PlannerMemoryUptoCardSaid : Prop := Claim7.holds Tryd.pinned (.plain (OpenSpec.upto plannerMemorySpec)) plannerMemoryUptoCard
end Rows
end Go.Proofs.YtoaccmblaifnmaaDoor
