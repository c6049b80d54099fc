/-
  DERIVED. GIVEN WITH THE SEED: THE CARDS: each row of YtlfknfknlcgfcaaGreatDoorRows.lean that lists a variable, with what it lists TIED to the program's text (the seventh form; the later family's looks); each row that meets fmt, with fmt's text TOLD by the authors' own Lean function (tested against real Go, not proved from fmt's source: count such statements apart). THE CARD IS WHAT COUNTS. Prove the row's statement (the work); the ties are given (YtlfknfknlcgfcaaGreatDoorTie.lean); close each card by the builder's one call (the guide's Derived/Test/ToyasCard.lean, 'card_holds'). Laid BY PROGRAM, IN A SANDBOX (cutbox-door.mjs). By AI agents, Wed Nov 11 2026. No macro, syntax, notation, axiom, sorry.
-/
import Derived.Test.YtlfknfknlcgfcaaGreatDoorRows
import GoSem.ClaimSeven
namespace Go.Proofs.YtlfknfknlcgfcaaGreatDoor
namespace Rows

/-- THE TIED CARD OF 'gyttjalaw05.CasesAt'. -/
def casesAtCard : Claim7 := { stood := { row := casesAtRow, standIns := [], harness := (true, "a423655f77fa96867ed46272cbf498abde35b7a3ec5e25b90d5e63d156bfd0e2"), looks := false }, kinds := [], alts := [], laidByText := true, laidKinds := [.data, .data], laidTests := true, laidLooks := .later }
def CasesAtCardSaid : Prop := Claim7.holds Tryz.pinned (.plain (OpenSpec.ofChange casesAtSpec)) casesAtCard

/-- THE TIED CARD OF 'gyttjalaw05.CasesGrows'. -/
def casesGrowsCard : Claim7 := { stood := { row := casesGrowsRow, standIns := [], harness := (true, "a423655f77fa96867ed46272cbf498abde35b7a3ec5e25b90d5e63d156bfd0e2"), looks := false }, kinds := [], alts := [], laidByText := true, laidKinds := [.data, .data], laidTests := true, laidLooks := .later }
def CasesGrowsCardSaid : Prop := Claim7.holds Tryz.pinned (.plain (OpenSpec.ofChange casesGrowsSpec)) casesGrowsCard

/-- THE TIED CARD OF 'gyttjalaw05.CasesTrees'. -/
def casesTreesCard : Claim7 := { stood := { row := casesTreesRow, standIns := [], harness := (true, "a423655f77fa96867ed46272cbf498abde35b7a3ec5e25b90d5e63d156bfd0e2"), looks := false }, kinds := [], alts := [], laidByText := true, laidKinds := [.data, .data], laidTests := true, laidLooks := .later }
def CasesTreesCardSaid : Prop := Claim7.holds Tryz.pinned (.plain (OpenSpec.ofChange casesTreesSpec)) casesTreesCard

/-- THE TIED CARD OF 'gyttjalaw05.CasesLeaves'. -/
def casesLeavesCard : Claim7 := { stood := { row := casesLeavesRow, standIns := [], harness := (true, "a423655f77fa96867ed46272cbf498abde35b7a3ec5e25b90d5e63d156bfd0e2"), looks := false }, kinds := [], alts := [], laidByText := true, laidKinds := [.data, .data], laidTests := true, laidLooks := .later }
def CasesLeavesCardSaid : Prop := Claim7.holds Tryz.pinned (.plain (OpenSpec.ofChange casesLeavesSpec)) casesLeavesCard

/-- THE TIED CARD OF 'gyttjalaw05.CasesValues'. -/
def casesValuesCard : Claim7 := { stood := { row := casesValuesRow, standIns := [], harness := (true, "a423655f77fa96867ed46272cbf498abde35b7a3ec5e25b90d5e63d156bfd0e2"), looks := false }, kinds := [], alts := [], laidByText := true, laidKinds := [.data, .data], laidTests := true, laidLooks := .later }
def CasesValuesCardSaid : Prop := Claim7.holds Tryz.pinned (.plain (OpenSpec.ofChange casesValuesSpec)) casesValuesCard

/-- THE TIED CARD OF 'gyttjalaw05.CasesChooses'. -/
def casesChoosesCard : Claim7 := { stood := { row := casesChoosesRow, standIns := [], harness := (true, "a423655f77fa96867ed46272cbf498abde35b7a3ec5e25b90d5e63d156bfd0e2"), looks := false }, kinds := [], alts := [], laidByText := true, laidKinds := [.data, .data], laidTests := true, laidLooks := .later }
def CasesChoosesCardSaid : Prop := Claim7.holds Tryz.pinned (.plain (OpenSpec.ofChange casesChoosesSpec)) casesChoosesCard

/-- THE TIED CARD OF 'gyttjalaw05.CasesKeeps'. -/
def casesKeepsCard : Claim7 := { stood := { row := casesKeepsRow, standIns := [], harness := (true, "a423655f77fa96867ed46272cbf498abde35b7a3ec5e25b90d5e63d156bfd0e2"), looks := false }, kinds := [], alts := [], laidByText := true, laidKinds := [.data, .data], laidTests := true, laidLooks := .later }
def CasesKeepsCardSaid : Prop := Claim7.holds Tryz.pinned (.plain (OpenSpec.ofChange casesKeepsSpec)) casesKeepsCard

/-- THE TIED CARD OF 'gyttjalaw05.CasesExact'. -/
def casesExactCard : Claim7 := { stood := { row := casesExactRow, standIns := [], harness := (true, "a423655f77fa96867ed46272cbf498abde35b7a3ec5e25b90d5e63d156bfd0e2"), looks := false }, kinds := [], alts := [], laidByText := true, laidKinds := [.data, .data], laidTests := true, laidLooks := .later }
def CasesExactCardSaid : Prop := Claim7.holds Tryz.pinned (.plain (OpenSpec.ofChange casesExactSpec)) casesExactCard

/-- THE TIED CARD OF 'gyttjalaw05.CasesLeft'. -/
def casesLeftCard : Claim7 := { stood := { row := casesLeftRow, standIns := [], harness := (true, "a423655f77fa96867ed46272cbf498abde35b7a3ec5e25b90d5e63d156bfd0e2"), looks := false }, kinds := [], alts := [], laidByText := true, laidKinds := [.data, .data], laidTests := true, laidLooks := .later }
def CasesLeftCardSaid : Prop := Claim7.holds Tryz.pinned (.plain (OpenSpec.ofChange casesLeftSpec)) casesLeftCard

/-- THE TIED CARD OF 'gyttjalaw05.CasesWithout'. -/
def casesWithoutCard : Claim7 := { stood := { row := casesWithoutRow, standIns := [], harness := (true, "a423655f77fa96867ed46272cbf498abde35b7a3ec5e25b90d5e63d156bfd0e2"), looks := false }, kinds := [], alts := [], laidByText := true, laidKinds := [.data, .data], laidTests := true, laidLooks := .later }
def CasesWithoutCardSaid : Prop := Claim7.holds Tryz.pinned (.plain (OpenSpec.ofChange casesWithoutSpec)) casesWithoutCard

/-- THE TIED CARD OF 'gyttjalaw05.CasesSplit'. -/
def casesSplitCard : Claim7 := { stood := { row := casesSplitRow, standIns := [], harness := (true, "a423655f77fa96867ed46272cbf498abde35b7a3ec5e25b90d5e63d156bfd0e2"), looks := false }, kinds := [], alts := [], laidByText := true, laidKinds := [.data, .data], laidTests := true, laidLooks := .later }
def CasesSplitCardSaid : Prop := Claim7.holds Tryz.pinned (.plain (OpenSpec.ofChange casesSplitSpec)) casesSplitCard

/-- THE TIED CARD OF 'gyttjalaw05.CasesBlames'. -/
def casesBlamesCard : Claim7 := { stood := { row := casesBlamesRow, standIns := [], harness := (true, "a423655f77fa96867ed46272cbf498abde35b7a3ec5e25b90d5e63d156bfd0e2"), looks := false }, kinds := [], alts := [], laidByText := true, laidKinds := [.data, .data], laidTests := true, laidLooks := .later }
def CasesBlamesCardSaid : Prop := Claim7.holds Tryz.pinned (.plain (OpenSpec.ofChange casesBlamesSpec)) casesBlamesCard

/-- THE SECOND FORM's CARD OF 'gyttjalaw05.CasesAt'. -/
def casesAtUptoCard : Claim7 := { stood := { row := casesAtUptoRow, standIns := [], harness := (true, "a423655f77fa96867ed46272cbf498abde35b7a3ec5e25b90d5e63d156bfd0e2"), looks := false }, kinds := [], alts := [], laidByText := true, laidKinds := [.data, .data], laidTests := true, laidLooks := .later }
def CasesAtUptoCardSaid : Prop := Claim7.holds Tryz.pinned (.plain (OpenSpec.upto casesAtSpec)) casesAtUptoCard

/-- THE SECOND FORM's CARD OF 'gyttjalaw05.CasesGrows'. -/
def casesGrowsUptoCard : Claim7 := { stood := { row := casesGrowsUptoRow, standIns := [], harness := (true, "a423655f77fa96867ed46272cbf498abde35b7a3ec5e25b90d5e63d156bfd0e2"), looks := false }, kinds := [], alts := [], laidByText := true, laidKinds := [.data, .data], laidTests := true, laidLooks := .later }
def CasesGrowsUptoCardSaid : Prop := Claim7.holds Tryz.pinned (.plain (OpenSpec.upto casesGrowsSpec)) casesGrowsUptoCard

/-- THE SECOND FORM's CARD OF 'gyttjalaw05.CasesTrees'. -/
def casesTreesUptoCard : Claim7 := { stood := { row := casesTreesUptoRow, standIns := [], harness := (true, "a423655f77fa96867ed46272cbf498abde35b7a3ec5e25b90d5e63d156bfd0e2"), looks := false }, kinds := [], alts := [], laidByText := true, laidKinds := [.data, .data], laidTests := true, laidLooks := .later }
def CasesTreesUptoCardSaid : Prop := Claim7.holds Tryz.pinned (.plain (OpenSpec.upto casesTreesSpec)) casesTreesUptoCard

/-- THE SECOND FORM's CARD OF 'gyttjalaw05.CasesLeaves'. -/
def casesLeavesUptoCard : Claim7 := { stood := { row := casesLeavesUptoRow, standIns := [], harness := (true, "a423655f77fa96867ed46272cbf498abde35b7a3ec5e25b90d5e63d156bfd0e2"), looks := false }, kinds := [], alts := [], laidByText := true, laidKinds := [.data, .data], laidTests := true, laidLooks := .later }
def CasesLeavesUptoCardSaid : Prop := Claim7.holds Tryz.pinned (.plain (OpenSpec.upto casesLeavesSpec)) casesLeavesUptoCard

/-- THE SECOND FORM's CARD OF 'gyttjalaw05.CasesValues'. -/
def casesValuesUptoCard : Claim7 := { stood := { row := casesValuesUptoRow, standIns := [], harness := (true, "a423655f77fa96867ed46272cbf498abde35b7a3ec5e25b90d5e63d156bfd0e2"), looks := false }, kinds := [], alts := [], laidByText := true, laidKinds := [.data, .data], laidTests := true, laidLooks := .later }
def CasesValuesUptoCardSaid : Prop := Claim7.holds Tryz.pinned (.plain (OpenSpec.upto casesValuesSpec)) casesValuesUptoCard

/-- THE SECOND FORM's CARD OF 'gyttjalaw05.CasesChooses'. -/
def casesChoosesUptoCard : Claim7 := { stood := { row := casesChoosesUptoRow, standIns := [], harness := (true, "a423655f77fa96867ed46272cbf498abde35b7a3ec5e25b90d5e63d156bfd0e2"), looks := false }, kinds := [], alts := [], laidByText := true, laidKinds := [.data, .data], laidTests := true, laidLooks := .later }
def CasesChoosesUptoCardSaid : Prop := Claim7.holds Tryz.pinned (.plain (OpenSpec.upto casesChoosesSpec)) casesChoosesUptoCard

/-- THE SECOND FORM's CARD OF 'gyttjalaw05.CasesKeeps'. -/
def casesKeepsUptoCard : Claim7 := { stood := { row := casesKeepsUptoRow, standIns := [], harness := (true, "a423655f77fa96867ed46272cbf498abde35b7a3ec5e25b90d5e63d156bfd0e2"), looks := false }, kinds := [], alts := [], laidByText := true, laidKinds := [.data, .data], laidTests := true, laidLooks := .later }
def CasesKeepsUptoCardSaid : Prop := Claim7.holds Tryz.pinned (.plain (OpenSpec.upto casesKeepsSpec)) casesKeepsUptoCard

/-- THE SECOND FORM's CARD OF 'gyttjalaw05.CasesExact'. -/
def casesExactUptoCard : Claim7 := { stood := { row := casesExactUptoRow, standIns := [], harness := (true, "a423655f77fa96867ed46272cbf498abde35b7a3ec5e25b90d5e63d156bfd0e2"), looks := false }, kinds := [], alts := [], laidByText := true, laidKinds := [.data, .data], laidTests := true, laidLooks := .later }
def CasesExactUptoCardSaid : Prop := Claim7.holds Tryz.pinned (.plain (OpenSpec.upto casesExactSpec)) casesExactUptoCard

/-- THE SECOND FORM's CARD OF 'gyttjalaw05.CasesLeft'. -/
def casesLeftUptoCard : Claim7 := { stood := { row := casesLeftUptoRow, standIns := [], harness := (true, "a423655f77fa96867ed46272cbf498abde35b7a3ec5e25b90d5e63d156bfd0e2"), looks := false }, kinds := [], alts := [], laidByText := true, laidKinds := [.data, .data], laidTests := true, laidLooks := .later }
def CasesLeftUptoCardSaid : Prop := Claim7.holds Tryz.pinned (.plain (OpenSpec.upto casesLeftSpec)) casesLeftUptoCard

/-- THE SECOND FORM's CARD OF 'gyttjalaw05.CasesWithout'. -/
def casesWithoutUptoCard : Claim7 := { stood := { row := casesWithoutUptoRow, standIns := [], harness := (true, "a423655f77fa96867ed46272cbf498abde35b7a3ec5e25b90d5e63d156bfd0e2"), looks := false }, kinds := [], alts := [], laidByText := true, laidKinds := [.data, .data], laidTests := true, laidLooks := .later }
def CasesWithoutUptoCardSaid : Prop := Claim7.holds Tryz.pinned (.plain (OpenSpec.upto casesWithoutSpec)) casesWithoutUptoCard

/-- THE SECOND FORM's CARD OF 'gyttjalaw05.CasesSplit'. -/
def casesSplitUptoCard : Claim7 := { stood := { row := casesSplitUptoRow, standIns := [], harness := (true, "a423655f77fa96867ed46272cbf498abde35b7a3ec5e25b90d5e63d156bfd0e2"), looks := false }, kinds := [], alts := [], laidByText := true, laidKinds := [.data, .data], laidTests := true, laidLooks := .later }
def CasesSplitUptoCardSaid : Prop := Claim7.holds Tryz.pinned (.plain (OpenSpec.upto casesSplitSpec)) casesSplitUptoCard

/-- THE SECOND FORM's CARD OF 'gyttjalaw05.CasesBlames'. -/
def casesBlamesUptoCard : Claim7 := { stood := { row := casesBlamesUptoRow, standIns := [], harness := (true, "a423655f77fa96867ed46272cbf498abde35b7a3ec5e25b90d5e63d156bfd0e2"), looks := false }, kinds := [], alts := [], laidByText := true, laidKinds := [.data, .data], laidTests := true, laidLooks := .later }
def CasesBlamesUptoCardSaid : Prop := Claim7.holds Tryz.pinned (.plain (OpenSpec.upto casesBlamesSpec)) casesBlamesUptoCard
end Rows
end Go.Proofs.YtlfknfknlcgfcaaGreatDoor
