/-
  DERIVED. GIVEN WITH THE SEED: THE CARDS: each row of YtgbkdjlekfjkfaaGreatDoorRows.lean that lists a variable, with what it lists TIED to the program's text (the seventh form; the later family's looks); each row that meets fmt, with fmt's text TOLD by the authors' own Lean function (tested against real Go, not proved from fmt's source: count such statements apart). THE CARD IS WHAT COUNTS. Prove the row's statement (the work); the ties are given (YtgbkdjlekfjkfaaGreatDoorTie.lean); close each card by the builder's one call (the guide's Derived/Test/ToyasCard.lean, 'card_holds'). Laid BY PROGRAM, IN A SANDBOX (cutbox-door.mjs). By AI agents, Wed Nov 11 2026. No macro, syntax, notation, axiom, sorry.
-/
import Derived.Test.YtgbkdjlekfjkfaaGreatDoorRows
import GoSem.ClaimSeven
namespace Go.Proofs.YtgbkdjlekfjkfaaGreatDoor
namespace Rows

/-- THE TIED CARD OF 'gyttjalaw02.SpanCycles'. -/
def spanCyclesCard : Claim7 := { stood := { row := spanCyclesRow, standIns := [], harness := (true, "c8b50b1ca36260b8db209b266508d2dbc39129477730302f8ad94d5fa776fbb1"), looks := false }, kinds := [], alts := [], laidByText := true, laidKinds := [.data], laidTests := true, laidLooks := .later }
def SpanCyclesCardSaid : Prop := Claim7.holds Tryz.pinned (.plain (OpenSpec.ofChange spanCyclesSpec)) spanCyclesCard

/-- THE TIED CARD OF 'gyttjalaw02.SpanAttains'. -/
def spanAttainsCard : Claim7 := { stood := { row := spanAttainsRow, standIns := [], harness := (true, "c8b50b1ca36260b8db209b266508d2dbc39129477730302f8ad94d5fa776fbb1"), looks := false }, kinds := [], alts := [], laidByText := true, laidKinds := [.data], laidTests := true, laidLooks := .later }
def SpanAttainsCardSaid : Prop := Claim7.holds Tryz.pinned (.plain (OpenSpec.ofChange spanAttainsSpec)) spanAttainsCard

/-- THE TIED CARD OF 'gyttjalaw02.SpanConflict'. -/
def spanConflictCard : Claim7 := { stood := { row := spanConflictRow, standIns := [], harness := (true, "c8b50b1ca36260b8db209b266508d2dbc39129477730302f8ad94d5fa776fbb1"), looks := false }, kinds := [], alts := [], laidByText := true, laidKinds := [.data], laidTests := true, laidLooks := .later }
def SpanConflictCardSaid : Prop := Claim7.holds Tryz.pinned (.plain (OpenSpec.ofChange spanConflictSpec)) spanConflictCard

/-- THE TIED CARD OF 'gyttjalaw06.YearsFractions'. -/
def yearsFractionsCard : Claim7 := { stood := { row := yearsFractionsRow, standIns := [], harness := (true, "c8b50b1ca36260b8db209b266508d2dbc39129477730302f8ad94d5fa776fbb1"), looks := false }, kinds := [], alts := [], laidByText := true, laidKinds := [.data, .data], laidTests := true, laidLooks := .later }
def YearsFractionsCardSaid : Prop := Claim7.holds Tryz.pinned (.plain (OpenSpec.ofChange yearsFractionsSpec)) yearsFractionsCard

/-- THE TIED CARD OF 'gyttjalaw06.YearsMeans'. -/
def yearsMeansCard : Claim7 := { stood := { row := yearsMeansRow, standIns := [], harness := (true, "c8b50b1ca36260b8db209b266508d2dbc39129477730302f8ad94d5fa776fbb1"), looks := false }, kinds := [], alts := [], laidByText := true, laidKinds := [.data, .data], laidTests := true, laidLooks := .later }
def YearsMeansCardSaid : Prop := Claim7.holds Tryz.pinned (.plain (OpenSpec.ofChange yearsMeansSpec)) yearsMeansCard

/-- THE SECOND FORM's CARD OF 'gyttjalaw02.SpanCycles'. -/
def spanCyclesUptoCard : Claim7 := { stood := { row := spanCyclesUptoRow, standIns := [], harness := (true, "c8b50b1ca36260b8db209b266508d2dbc39129477730302f8ad94d5fa776fbb1"), looks := false }, kinds := [], alts := [], laidByText := true, laidKinds := [.data], laidTests := true, laidLooks := .later }
def SpanCyclesUptoCardSaid : Prop := Claim7.holds Tryz.pinned (.plain (OpenSpec.upto spanCyclesSpec)) spanCyclesUptoCard

/-- THE SECOND FORM's CARD OF 'gyttjalaw02.SpanAttains'. -/
def spanAttainsUptoCard : Claim7 := { stood := { row := spanAttainsUptoRow, standIns := [], harness := (true, "c8b50b1ca36260b8db209b266508d2dbc39129477730302f8ad94d5fa776fbb1"), looks := false }, kinds := [], alts := [], laidByText := true, laidKinds := [.data], laidTests := true, laidLooks := .later }
def SpanAttainsUptoCardSaid : Prop := Claim7.holds Tryz.pinned (.plain (OpenSpec.upto spanAttainsSpec)) spanAttainsUptoCard

/-- THE SECOND FORM's CARD OF 'gyttjalaw02.SpanConflict'. -/
def spanConflictUptoCard : Claim7 := { stood := { row := spanConflictUptoRow, standIns := [], harness := (true, "c8b50b1ca36260b8db209b266508d2dbc39129477730302f8ad94d5fa776fbb1"), looks := false }, kinds := [], alts := [], laidByText := true, laidKinds := [.data], laidTests := true, laidLooks := .later }
def SpanConflictUptoCardSaid : Prop := Claim7.holds Tryz.pinned (.plain (OpenSpec.upto spanConflictSpec)) spanConflictUptoCard

/-- THE SECOND FORM's CARD OF 'gyttjalaw06.YearsFractions'. -/
def yearsFractionsUptoCard : Claim7 := { stood := { row := yearsFractionsUptoRow, standIns := [], harness := (true, "c8b50b1ca36260b8db209b266508d2dbc39129477730302f8ad94d5fa776fbb1"), looks := false }, kinds := [], alts := [], laidByText := true, laidKinds := [.data, .data], laidTests := true, laidLooks := .later }
def YearsFractionsUptoCardSaid : Prop := Claim7.holds Tryz.pinned (.plain (OpenSpec.upto yearsFractionsSpec)) yearsFractionsUptoCard

/-- THE SECOND FORM's CARD OF 'gyttjalaw06.YearsMeans'. -/
def yearsMeansUptoCard : Claim7 := { stood := { row := yearsMeansUptoRow, standIns := [], harness := (true, "c8b50b1ca36260b8db209b266508d2dbc39129477730302f8ad94d5fa776fbb1"), looks := false }, kinds := [], alts := [], laidByText := true, laidKinds := [.data, .data], laidTests := true, laidLooks := .later }
def YearsMeansUptoCardSaid : Prop := Claim7.holds Tryz.pinned (.plain (OpenSpec.upto yearsMeansSpec)) yearsMeansUptoCard
end Rows
end Go.Proofs.YtgbkdjlekfjkfaaGreatDoor
