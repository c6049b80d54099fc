/-
  DERIVED. GIVEN WITH THE SEED: THE CARDS: each row of YthgnholbajpdgaaDoorRows.lean that lists a variable, with what it lists TIED to the program's text (the seventh form; the later family's looks); each row that meets fmt, with fmt's text TOLD by the authors' own Lean function (tested against real Go, not proved from fmt's source: count such statements apart). THE CARD IS WHAT COUNTS. Prove the row's statement (the work); the ties are given (YthgnholbajpdgaaDoorTie.lean); close each card by the builder's one call (the guide's Derived/Test/ToyasCard.lean, 'card_holds'). Laid BY PROGRAM, IN A SANDBOX (cutbox-door.mjs). By AI agents, Wed Nov 11 2026. No macro, syntax, notation, axiom, sorry.
-/
import Derived.Test.YthgnholbajpdgaaDoorRows
import GoSem.ClaimSeven
namespace Go.Proofs.YthgnholbajpdgaaDoor
namespace Rows

/-- THE TIED CARD OF 'gyttjalaw01.SheetRows'. -/
def sheetRowsCard : Claim7 := { stood := { row := sheetRowsRow, standIns := [], harness := (true, "dadd5b3b6cd18f4061fc20030873a1f708505344147972ee70bbd59b25e3c24b"), looks := true }, kinds := [], alts := [], laidByText := true, laidKinds := [.data], laidTests := true, laidLooks := .later }
def SheetRowsCardSaid : Prop := Claim7.holds Tryd.pinned (.plain (OpenSpec.ofChange sheetRowsSpec)) sheetRowsCard

/-- THE TIED CARD OF 'gyttjalaw01.SheetPlaces'. -/
def sheetPlacesCard : Claim7 := { stood := { row := sheetPlacesRow, standIns := [], harness := (true, "dadd5b3b6cd18f4061fc20030873a1f708505344147972ee70bbd59b25e3c24b"), looks := true }, kinds := [], alts := [], laidByText := true, laidKinds := [.data], laidTests := true, laidLooks := .later }
def SheetPlacesCardSaid : Prop := Claim7.holds Tryd.pinned (.plain (OpenSpec.ofChange sheetPlacesSpec)) sheetPlacesCard

/-- THE TIED CARD OF 'gyttjalaw01.SheetParses'. -/
def sheetParsesCard : Claim7 := { stood := { row := sheetParsesRow, standIns := [], harness := (true, "dadd5b3b6cd18f4061fc20030873a1f708505344147972ee70bbd59b25e3c24b"), looks := true }, kinds := [], alts := [], laidByText := true, laidKinds := [.data, .data, .data, .data], laidTests := true, laidLooks := .later }
def SheetParsesCardSaid : Prop := Claim7.holds Tryd.pinned (.plain (OpenSpec.ofChange sheetParsesSpec)) sheetParsesCard

/-- THE TIED CARD OF 'gyttjalaw01.SheetLong'. -/
def sheetLongCard : Claim7 := { stood := { row := sheetLongRow, standIns := [], harness := (true, "dadd5b3b6cd18f4061fc20030873a1f708505344147972ee70bbd59b25e3c24b"), looks := true }, kinds := [], alts := [], laidByText := true, laidKinds := [.data], laidTests := true, laidLooks := .later }
def SheetLongCardSaid : Prop := Claim7.holds Tryd.pinned (.plain (OpenSpec.ofChange sheetLongSpec)) sheetLongCard

/-- THE TIED CARD OF 'gyttjalaw01.SheetPrints'. -/
def sheetPrintsCard : Claim7 := { stood := { row := sheetPrintsRow, standIns := [], harness := (true, "dadd5b3b6cd18f4061fc20030873a1f708505344147972ee70bbd59b25e3c24b"), looks := true }, kinds := [], alts := [], laidByText := true, laidKinds := [.data, .data, .data, .data], laidTests := true, laidLooks := .later }
def SheetPrintsCardSaid : Prop := Claim7.holds Tryd.pinned (.plain (OpenSpec.ofChange sheetPrintsSpec)) sheetPrintsCard

/-- THE TIED CARD OF 'gyttjalaw01.SheetSpans'. -/
def sheetSpansCard : Claim7 := { stood := { row := sheetSpansRow, standIns := [], harness := (true, "dadd5b3b6cd18f4061fc20030873a1f708505344147972ee70bbd59b25e3c24b"), looks := true }, kinds := [], alts := [], laidByText := true, laidKinds := [.data], laidTests := true, laidLooks := .later }
def SheetSpansCardSaid : Prop := Claim7.holds Tryd.pinned (.plain (OpenSpec.ofChange sheetSpansSpec)) sheetSpansCard

/-- THE TIED CARD OF 'gyttjalaw01.SheetCuts'. -/
def sheetCutsCard : Claim7 := { stood := { row := sheetCutsRow, standIns := [], harness := (true, "dadd5b3b6cd18f4061fc20030873a1f708505344147972ee70bbd59b25e3c24b"), looks := true }, kinds := [], alts := [], laidByText := true, laidKinds := [.data], laidTests := true, laidLooks := .later }
def SheetCutsCardSaid : Prop := Claim7.holds Tryd.pinned (.plain (OpenSpec.ofChange sheetCutsSpec)) sheetCutsCard

/-- THE TIED CARD OF 'gyttjalaw01.SheetReads'. -/
def sheetReadsCard : Claim7 := { stood := { row := sheetReadsRow, standIns := [], harness := (true, "dadd5b3b6cd18f4061fc20030873a1f708505344147972ee70bbd59b25e3c24b"), looks := true }, kinds := [], alts := [], laidByText := true, laidKinds := [.data], laidTests := true, laidLooks := .later }
def SheetReadsCardSaid : Prop := Claim7.holds Tryd.pinned (.plain (OpenSpec.ofChange sheetReadsSpec)) sheetReadsCard

/-- THE TIED CARD OF 'gyttjalaw01.SheetReadings'. -/
def sheetReadingsCard : Claim7 := { stood := { row := sheetReadingsRow, standIns := [], harness := (true, "dadd5b3b6cd18f4061fc20030873a1f708505344147972ee70bbd59b25e3c24b"), looks := true }, kinds := [], alts := [], laidByText := true, laidKinds := [.data], laidTests := true, laidLooks := .later }
def SheetReadingsCardSaid : Prop := Claim7.holds Tryd.pinned (.plain (OpenSpec.ofChange sheetReadingsSpec)) sheetReadingsCard

/-- THE TIED CARD OF 'gyttjalaw01.SheetRaw'. -/
def sheetRawCard : Claim7 := { stood := { row := sheetRawRow, standIns := [], harness := (true, "dadd5b3b6cd18f4061fc20030873a1f708505344147972ee70bbd59b25e3c24b"), looks := true }, kinds := [], alts := [], laidByText := true, laidKinds := [.data], laidTests := true, laidLooks := .later }
def SheetRawCardSaid : Prop := Claim7.holds Tryd.pinned (.plain (OpenSpec.ofChange sheetRawSpec)) sheetRawCard

/-- THE TIED CARD OF 'gyttjalaw01.SheetMeets'. -/
def sheetMeetsCard : Claim7 := { stood := { row := sheetMeetsRow, standIns := [], harness := (true, "dadd5b3b6cd18f4061fc20030873a1f708505344147972ee70bbd59b25e3c24b"), looks := true }, kinds := [], alts := [], laidByText := true, laidKinds := [.data], laidTests := true, laidLooks := .later }
def SheetMeetsCardSaid : Prop := Claim7.holds Tryd.pinned (.plain (OpenSpec.ofChange sheetMeetsSpec)) sheetMeetsCard

/-- THE TIED CARD OF 'gyttjalaw01.SheetBounds'. -/
def sheetBoundsCard : Claim7 := { stood := { row := sheetBoundsRow, standIns := [], harness := (true, "dadd5b3b6cd18f4061fc20030873a1f708505344147972ee70bbd59b25e3c24b"), looks := true }, kinds := [], alts := [], laidByText := true, laidKinds := [.data], laidTests := true, laidLooks := .later }
def SheetBoundsCardSaid : Prop := Claim7.holds Tryd.pinned (.plain (OpenSpec.ofChange sheetBoundsSpec)) sheetBoundsCard

/-- THE SECOND FORM's CARD OF 'gyttjalaw01.SheetRows'. -/
def sheetRowsUptoCard : Claim7 := { stood := { row := sheetRowsUptoRow, standIns := [], harness := (true, "dadd5b3b6cd18f4061fc20030873a1f708505344147972ee70bbd59b25e3c24b"), looks := true }, kinds := [], alts := [], laidByText := true, laidKinds := [.data], laidTests := true, laidLooks := .later }
def SheetRowsUptoCardSaid : Prop := Claim7.holds Tryd.pinned (.plain (OpenSpec.upto sheetRowsSpec)) sheetRowsUptoCard

/-- THE SECOND FORM's CARD OF 'gyttjalaw01.SheetPlaces'. -/
def sheetPlacesUptoCard : Claim7 := { stood := { row := sheetPlacesUptoRow, standIns := [], harness := (true, "dadd5b3b6cd18f4061fc20030873a1f708505344147972ee70bbd59b25e3c24b"), looks := true }, kinds := [], alts := [], laidByText := true, laidKinds := [.data], laidTests := true, laidLooks := .later }
def SheetPlacesUptoCardSaid : Prop := Claim7.holds Tryd.pinned (.plain (OpenSpec.upto sheetPlacesSpec)) sheetPlacesUptoCard

/-- THE SECOND FORM's CARD OF 'gyttjalaw01.SheetParses'. -/
def sheetParsesUptoCard : Claim7 := { stood := { row := sheetParsesUptoRow, standIns := [], harness := (true, "dadd5b3b6cd18f4061fc20030873a1f708505344147972ee70bbd59b25e3c24b"), looks := true }, kinds := [], alts := [], laidByText := true, laidKinds := [.data, .data, .data, .data], laidTests := true, laidLooks := .later }
def SheetParsesUptoCardSaid : Prop := Claim7.holds Tryd.pinned (.plain (OpenSpec.upto sheetParsesSpec)) sheetParsesUptoCard

/-- THE SECOND FORM's CARD OF 'gyttjalaw01.SheetLong'. -/
def sheetLongUptoCard : Claim7 := { stood := { row := sheetLongUptoRow, standIns := [], harness := (true, "dadd5b3b6cd18f4061fc20030873a1f708505344147972ee70bbd59b25e3c24b"), looks := true }, kinds := [], alts := [], laidByText := true, laidKinds := [.data], laidTests := true, laidLooks := .later }
def SheetLongUptoCardSaid : Prop := Claim7.holds Tryd.pinned (.plain (OpenSpec.upto sheetLongSpec)) sheetLongUptoCard

/-- THE SECOND FORM's CARD OF 'gyttjalaw01.SheetPrints'. -/
def sheetPrintsUptoCard : Claim7 := { stood := { row := sheetPrintsUptoRow, standIns := [], harness := (true, "dadd5b3b6cd18f4061fc20030873a1f708505344147972ee70bbd59b25e3c24b"), looks := true }, kinds := [], alts := [], laidByText := true, laidKinds := [.data, .data, .data, .data], laidTests := true, laidLooks := .later }
def SheetPrintsUptoCardSaid : Prop := Claim7.holds Tryd.pinned (.plain (OpenSpec.upto sheetPrintsSpec)) sheetPrintsUptoCard

/-- THE SECOND FORM's CARD OF 'gyttjalaw01.SheetSpans'. -/
def sheetSpansUptoCard : Claim7 := { stood := { row := sheetSpansUptoRow, standIns := [], harness := (true, "dadd5b3b6cd18f4061fc20030873a1f708505344147972ee70bbd59b25e3c24b"), looks := true }, kinds := [], alts := [], laidByText := true, laidKinds := [.data], laidTests := true, laidLooks := .later }
def SheetSpansUptoCardSaid : Prop := Claim7.holds Tryd.pinned (.plain (OpenSpec.upto sheetSpansSpec)) sheetSpansUptoCard

/-- THE SECOND FORM's CARD OF 'gyttjalaw01.SheetCuts'. -/
def sheetCutsUptoCard : Claim7 := { stood := { row := sheetCutsUptoRow, standIns := [], harness := (true, "dadd5b3b6cd18f4061fc20030873a1f708505344147972ee70bbd59b25e3c24b"), looks := true }, kinds := [], alts := [], laidByText := true, laidKinds := [.data], laidTests := true, laidLooks := .later }
def SheetCutsUptoCardSaid : Prop := Claim7.holds Tryd.pinned (.plain (OpenSpec.upto sheetCutsSpec)) sheetCutsUptoCard

/-- THE SECOND FORM's CARD OF 'gyttjalaw01.SheetReads'. -/
def sheetReadsUptoCard : Claim7 := { stood := { row := sheetReadsUptoRow, standIns := [], harness := (true, "dadd5b3b6cd18f4061fc20030873a1f708505344147972ee70bbd59b25e3c24b"), looks := true }, kinds := [], alts := [], laidByText := true, laidKinds := [.data], laidTests := true, laidLooks := .later }
def SheetReadsUptoCardSaid : Prop := Claim7.holds Tryd.pinned (.plain (OpenSpec.upto sheetReadsSpec)) sheetReadsUptoCard

/-- THE SECOND FORM's CARD OF 'gyttjalaw01.SheetReadings'. -/
def sheetReadingsUptoCard : Claim7 := { stood := { row := sheetReadingsUptoRow, standIns := [], harness := (true, "dadd5b3b6cd18f4061fc20030873a1f708505344147972ee70bbd59b25e3c24b"), looks := true }, kinds := [], alts := [], laidByText := true, laidKinds := [.data], laidTests := true, laidLooks := .later }
def SheetReadingsUptoCardSaid : Prop := Claim7.holds Tryd.pinned (.plain (OpenSpec.upto sheetReadingsSpec)) sheetReadingsUptoCard

/-- THE SECOND FORM's CARD OF 'gyttjalaw01.SheetRaw'. -/
def sheetRawUptoCard : Claim7 := { stood := { row := sheetRawUptoRow, standIns := [], harness := (true, "dadd5b3b6cd18f4061fc20030873a1f708505344147972ee70bbd59b25e3c24b"), looks := true }, kinds := [], alts := [], laidByText := true, laidKinds := [.data], laidTests := true, laidLooks := .later }
def SheetRawUptoCardSaid : Prop := Claim7.holds Tryd.pinned (.plain (OpenSpec.upto sheetRawSpec)) sheetRawUptoCard

/-- THE SECOND FORM's CARD OF 'gyttjalaw01.SheetMeets'. -/
def sheetMeetsUptoCard : Claim7 := { stood := { row := sheetMeetsUptoRow, standIns := [], harness := (true, "dadd5b3b6cd18f4061fc20030873a1f708505344147972ee70bbd59b25e3c24b"), looks := true }, kinds := [], alts := [], laidByText := true, laidKinds := [.data], laidTests := true, laidLooks := .later }
def SheetMeetsUptoCardSaid : Prop := Claim7.holds Tryd.pinned (.plain (OpenSpec.upto sheetMeetsSpec)) sheetMeetsUptoCard

/-- THE SECOND FORM's CARD OF 'gyttjalaw01.SheetBounds'. -/
def sheetBoundsUptoCard : Claim7 := { stood := { row := sheetBoundsUptoRow, standIns := [], harness := (true, "dadd5b3b6cd18f4061fc20030873a1f708505344147972ee70bbd59b25e3c24b"), looks := true }, kinds := [], alts := [], laidByText := true, laidKinds := [.data], laidTests := true, laidLooks := .later }
def SheetBoundsUptoCardSaid : Prop := Claim7.holds Tryd.pinned (.plain (OpenSpec.upto sheetBoundsSpec)) sheetBoundsUptoCard
end Rows
end Go.Proofs.YthgnholbajpdgaaDoor
