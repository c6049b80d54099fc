/-
  DERIVED. GIVEN WITH THE SEED: THE CARDS: each row of YtomiigdpggeacaaDoorRows.lean that lists a variable, with what it lists TIED to the program's text (the seventh form; the later family's looks); each row that meets fmt, with fmt's text TOLD by the authors' own Lean function (tested against real Go, not proved from fmt's source: count such statements apart). THE CARD IS WHAT COUNTS. Prove the row's statement (the work); the ties are given (YtomiigdpggeacaaDoorTie.lean); close each card by the builder's one call (the guide's Derived/Test/ToyasCard.lean, 'card_holds'). Laid BY PROGRAM, IN A SANDBOX (cutbox-door.mjs). By AI agents, Wed Nov 11 2026. No macro, syntax, notation, axiom, sorry.
-/
import Derived.Test.YtomiigdpggeacaaDoorRows
import GoSem.ClaimSeven
namespace Go.Proofs.YtomiigdpggeacaaDoor
namespace Rows

/-- THE TIED CARD OF 'gyttjalaw01.SheetParses'. -/
def sheetParsesCard : Claim7 := { stood := { row := sheetParsesRow, standIns := [], harness := (true, "14a890ba02f5e72c85503b4807990a135be501996cfe0b2f8f9b0e294fb6207a"), looks := true }, kinds := [], alts := [], laidByText := true, laidKinds := [.data, .data, .data, .data], laidTests := true, laidLooks := .later }
def SheetParsesCardSaid : Prop := Claim7.holds Tryd.pinned (.plain (OpenSpec.ofChange sheetParsesSpec)) sheetParsesCard

/-- THE TIED CARD OF 'gyttjalaw01.SheetLong'. -/
def sheetLongCard : Claim7 := { stood := { row := sheetLongRow, standIns := [], harness := (true, "14a890ba02f5e72c85503b4807990a135be501996cfe0b2f8f9b0e294fb6207a"), looks := true }, kinds := [], alts := [], laidByText := true, laidKinds := [.data], laidTests := true, laidLooks := .later }
def SheetLongCardSaid : Prop := Claim7.holds Tryd.pinned (.plain (OpenSpec.ofChange sheetLongSpec)) sheetLongCard

/-- THE TIED CARD OF 'gyttjalaw01.SheetPrints'. -/
def sheetPrintsCard : Claim7 := { stood := { row := sheetPrintsRow, standIns := [], harness := (true, "14a890ba02f5e72c85503b4807990a135be501996cfe0b2f8f9b0e294fb6207a"), looks := true }, kinds := [], alts := [], laidByText := true, laidKinds := [.data, .data, .data, .data], laidTests := true, laidLooks := .later }
def SheetPrintsCardSaid : Prop := Claim7.holds Tryd.pinned (.plain (OpenSpec.ofChange sheetPrintsSpec)) sheetPrintsCard

/-- THE TIED CARD OF 'gyttjalaw01.SheetCuts'. -/
def sheetCutsCard : Claim7 := { stood := { row := sheetCutsRow, standIns := [], harness := (true, "14a890ba02f5e72c85503b4807990a135be501996cfe0b2f8f9b0e294fb6207a"), looks := true }, kinds := [], alts := [], laidByText := true, laidKinds := [.data], laidTests := true, laidLooks := .later }
def SheetCutsCardSaid : Prop := Claim7.holds Tryd.pinned (.plain (OpenSpec.ofChange sheetCutsSpec)) sheetCutsCard

/-- THE TIED CARD OF 'gyttjalaw01.SheetMeets'. -/
def sheetMeetsCard : Claim7 := { stood := { row := sheetMeetsRow, standIns := [], harness := (true, "14a890ba02f5e72c85503b4807990a135be501996cfe0b2f8f9b0e294fb6207a"), looks := true }, kinds := [], alts := [], laidByText := true, laidKinds := [.data], laidTests := true, laidLooks := .later }
def SheetMeetsCardSaid : Prop := Claim7.holds Tryd.pinned (.plain (OpenSpec.ofChange sheetMeetsSpec)) sheetMeetsCard

/-- THE TIED CARD OF 'gyttjalaw01.SheetSplices'. -/
def sheetSplicesCard : Claim7 := { stood := { row := sheetSplicesRow, standIns := [], harness := (true, "14a890ba02f5e72c85503b4807990a135be501996cfe0b2f8f9b0e294fb6207a"), looks := true }, kinds := [], alts := [], laidByText := true, laidKinds := [.data], laidTests := true, laidLooks := .later }
def SheetSplicesCardSaid : Prop := Claim7.holds Tryd.pinned (.plain (OpenSpec.ofChange sheetSplicesSpec)) sheetSplicesCard

/-- THE TIED CARD OF 'gyttjalaw01.SheetTogether'. -/
def sheetTogetherCard : Claim7 := { stood := { row := sheetTogetherRow, standIns := [], harness := (true, "14a890ba02f5e72c85503b4807990a135be501996cfe0b2f8f9b0e294fb6207a"), looks := true }, kinds := [], alts := [], laidByText := true, laidKinds := [.data], laidTests := true, laidLooks := .later }
def SheetTogetherCardSaid : Prop := Claim7.holds Tryd.pinned (.plain (OpenSpec.ofChange sheetTogetherSpec)) sheetTogetherCard

/-- THE SECOND FORM's CARD OF 'gyttjalaw01.SheetParses'. -/
def sheetParsesUptoCard : Claim7 := { stood := { row := sheetParsesUptoRow, standIns := [], harness := (true, "14a890ba02f5e72c85503b4807990a135be501996cfe0b2f8f9b0e294fb6207a"), looks := true }, kinds := [], alts := [], laidByText := true, laidKinds := [.data, .data, .data, .data], laidTests := true, laidLooks := .later }
def SheetParsesUptoCardSaid : Prop := Claim7.holds Tryd.pinned (.plain (OpenSpec.upto sheetParsesSpec)) sheetParsesUptoCard

/-- THE SECOND FORM's CARD OF 'gyttjalaw01.SheetLong'. -/
def sheetLongUptoCard : Claim7 := { stood := { row := sheetLongUptoRow, standIns := [], harness := (true, "14a890ba02f5e72c85503b4807990a135be501996cfe0b2f8f9b0e294fb6207a"), looks := true }, kinds := [], alts := [], laidByText := true, laidKinds := [.data], laidTests := true, laidLooks := .later }
def SheetLongUptoCardSaid : Prop := Claim7.holds Tryd.pinned (.plain (OpenSpec.upto sheetLongSpec)) sheetLongUptoCard

/-- THE SECOND FORM's CARD OF 'gyttjalaw01.SheetPrints'. -/
def sheetPrintsUptoCard : Claim7 := { stood := { row := sheetPrintsUptoRow, standIns := [], harness := (true, "14a890ba02f5e72c85503b4807990a135be501996cfe0b2f8f9b0e294fb6207a"), looks := true }, kinds := [], alts := [], laidByText := true, laidKinds := [.data, .data, .data, .data], laidTests := true, laidLooks := .later }
def SheetPrintsUptoCardSaid : Prop := Claim7.holds Tryd.pinned (.plain (OpenSpec.upto sheetPrintsSpec)) sheetPrintsUptoCard

/-- THE SECOND FORM's CARD OF 'gyttjalaw01.SheetCuts'. -/
def sheetCutsUptoCard : Claim7 := { stood := { row := sheetCutsUptoRow, standIns := [], harness := (true, "14a890ba02f5e72c85503b4807990a135be501996cfe0b2f8f9b0e294fb6207a"), looks := true }, kinds := [], alts := [], laidByText := true, laidKinds := [.data], laidTests := true, laidLooks := .later }
def SheetCutsUptoCardSaid : Prop := Claim7.holds Tryd.pinned (.plain (OpenSpec.upto sheetCutsSpec)) sheetCutsUptoCard

/-- THE SECOND FORM's CARD OF 'gyttjalaw01.SheetMeets'. -/
def sheetMeetsUptoCard : Claim7 := { stood := { row := sheetMeetsUptoRow, standIns := [], harness := (true, "14a890ba02f5e72c85503b4807990a135be501996cfe0b2f8f9b0e294fb6207a"), looks := true }, kinds := [], alts := [], laidByText := true, laidKinds := [.data], laidTests := true, laidLooks := .later }
def SheetMeetsUptoCardSaid : Prop := Claim7.holds Tryd.pinned (.plain (OpenSpec.upto sheetMeetsSpec)) sheetMeetsUptoCard

/-- THE SECOND FORM's CARD OF 'gyttjalaw01.SheetSplices'. -/
def sheetSplicesUptoCard : Claim7 := { stood := { row := sheetSplicesUptoRow, standIns := [], harness := (true, "14a890ba02f5e72c85503b4807990a135be501996cfe0b2f8f9b0e294fb6207a"), looks := true }, kinds := [], alts := [], laidByText := true, laidKinds := [.data], laidTests := true, laidLooks := .later }
def SheetSplicesUptoCardSaid : Prop := Claim7.holds Tryd.pinned (.plain (OpenSpec.upto sheetSplicesSpec)) sheetSplicesUptoCard

/-- THE SECOND FORM's CARD OF 'gyttjalaw01.SheetTogether'. -/
def sheetTogetherUptoCard : Claim7 := { stood := { row := sheetTogetherUptoRow, standIns := [], harness := (true, "14a890ba02f5e72c85503b4807990a135be501996cfe0b2f8f9b0e294fb6207a"), looks := true }, kinds := [], alts := [], laidByText := true, laidKinds := [.data], laidTests := true, laidLooks := .later }
def SheetTogetherUptoCardSaid : Prop := Claim7.holds Tryd.pinned (.plain (OpenSpec.upto sheetTogetherSpec)) sheetTogetherUptoCard
end Rows
end Go.Proofs.YtomiigdpggeacaaDoor
