/-
  DERIVED. GIVEN WITH THE SEED: THE CARDS: each row of YtngjpeoloaeneaaGreatDoorRows.lean that lists a variable, with what it lists TIED to the program's text (the seventh form; the later family's looks); each row that meets fmt, with fmt's text TOLD by the authors' own Lean function (tested against real Go, not proved from fmt's source: count such statements apart). THE CARD IS WHAT COUNTS. Prove the row's statement (the work); the ties are given (YtngjpeoloaeneaaGreatDoorTie.lean); close each card by the builder's one call (the guide's Derived/Test/ToyasCard.lean, 'card_holds'). Laid BY PROGRAM, IN A SANDBOX (cutbox-door.mjs). By AI agents, Wed Nov 11 2026. No macro, syntax, notation, axiom, sorry.
-/
import Derived.Test.YtngjpeoloaeneaaGreatDoorRows
import GoSem.ClaimSeven
namespace Go.Proofs.YtngjpeoloaeneaaGreatDoor
namespace Rows

/-- THE TIED CARD OF 'gyttjalaw06.YearsSets'. -/
def yearsSetsCard : Claim7 := { stood := { row := yearsSetsRow, standIns := [], harness := (true, "dee64ea6e7eb08ad402d580c32560d0b294c29c06f253254ef35904ea93e7bec"), looks := false }, kinds := [], alts := [], laidByText := true, laidKinds := [.data, .data], laidTests := true, laidLooks := .later }
def YearsSetsCardSaid : Prop := Claim7.holds Tryz.pinned (.plain (OpenSpec.ofChange yearsSetsSpec)) yearsSetsCard

/-- THE TIED CARD OF 'gyttjalaw06.YearsSpreads'. -/
def yearsSpreadsCard : Claim7 := { stood := { row := yearsSpreadsRow, standIns := [], harness := (true, "dee64ea6e7eb08ad402d580c32560d0b294c29c06f253254ef35904ea93e7bec"), looks := false }, kinds := [], alts := [], laidByText := true, laidKinds := [.data, .data], laidTests := true, laidLooks := .later }
def YearsSpreadsCardSaid : Prop := Claim7.holds Tryz.pinned (.plain (OpenSpec.ofChange yearsSpreadsSpec)) yearsSpreadsCard

/-- THE TIED CARD OF 'gyttjalaw06.YearsFractions'. -/
def yearsFractionsCard : Claim7 := { stood := { row := yearsFractionsRow, standIns := [], harness := (true, "dee64ea6e7eb08ad402d580c32560d0b294c29c06f253254ef35904ea93e7bec"), looks := false }, kinds := [], alts := [], laidByText := true, laidKinds := [.data, .data], laidTests := true, laidLooks := .later }
def YearsFractionsCardSaid : Prop := Claim7.holds Tryz.pinned (.plain (OpenSpec.ofChange yearsFractionsSpec)) yearsFractionsCard

/-- THE TIED CARD OF 'gyttjalaw06.YearsMeans'. -/
def yearsMeansCard : Claim7 := { stood := { row := yearsMeansRow, standIns := [], harness := (true, "dee64ea6e7eb08ad402d580c32560d0b294c29c06f253254ef35904ea93e7bec"), looks := false }, kinds := [], alts := [], laidByText := true, laidKinds := [.data, .data], laidTests := true, laidLooks := .later }
def YearsMeansCardSaid : Prop := Claim7.holds Tryz.pinned (.plain (OpenSpec.ofChange yearsMeansSpec)) yearsMeansCard

/-- THE TIED CARD OF 'gyttjalaw06.YearsWindows'. -/
def yearsWindowsCard : Claim7 := { stood := { row := yearsWindowsRow, standIns := [], harness := (true, "dee64ea6e7eb08ad402d580c32560d0b294c29c06f253254ef35904ea93e7bec"), looks := false }, kinds := [], alts := [], laidByText := true, laidKinds := [.data, .data], laidTests := true, laidLooks := .later }
def YearsWindowsCardSaid : Prop := Claim7.holds Tryz.pinned (.plain (OpenSpec.ofChange yearsWindowsSpec)) yearsWindowsCard

/-- THE SECOND FORM's CARD OF 'gyttjalaw06.YearsSets'. -/
def yearsSetsUptoCard : Claim7 := { stood := { row := yearsSetsUptoRow, standIns := [], harness := (true, "dee64ea6e7eb08ad402d580c32560d0b294c29c06f253254ef35904ea93e7bec"), looks := false }, kinds := [], alts := [], laidByText := true, laidKinds := [.data, .data], laidTests := true, laidLooks := .later }
def YearsSetsUptoCardSaid : Prop := Claim7.holds Tryz.pinned (.plain (OpenSpec.upto yearsSetsSpec)) yearsSetsUptoCard

/-- THE SECOND FORM's CARD OF 'gyttjalaw06.YearsSpreads'. -/
def yearsSpreadsUptoCard : Claim7 := { stood := { row := yearsSpreadsUptoRow, standIns := [], harness := (true, "dee64ea6e7eb08ad402d580c32560d0b294c29c06f253254ef35904ea93e7bec"), looks := false }, kinds := [], alts := [], laidByText := true, laidKinds := [.data, .data], laidTests := true, laidLooks := .later }
def YearsSpreadsUptoCardSaid : Prop := Claim7.holds Tryz.pinned (.plain (OpenSpec.upto yearsSpreadsSpec)) yearsSpreadsUptoCard

/-- THE SECOND FORM's CARD OF 'gyttjalaw06.YearsFractions'. -/
def yearsFractionsUptoCard : Claim7 := { stood := { row := yearsFractionsUptoRow, standIns := [], harness := (true, "dee64ea6e7eb08ad402d580c32560d0b294c29c06f253254ef35904ea93e7bec"), looks := false }, kinds := [], alts := [], laidByText := true, laidKinds := [.data, .data], laidTests := true, laidLooks := .later }
def YearsFractionsUptoCardSaid : Prop := Claim7.holds Tryz.pinned (.plain (OpenSpec.upto yearsFractionsSpec)) yearsFractionsUptoCard

/-- THE SECOND FORM's CARD OF 'gyttjalaw06.YearsMeans'. -/
def yearsMeansUptoCard : Claim7 := { stood := { row := yearsMeansUptoRow, standIns := [], harness := (true, "dee64ea6e7eb08ad402d580c32560d0b294c29c06f253254ef35904ea93e7bec"), looks := false }, kinds := [], alts := [], laidByText := true, laidKinds := [.data, .data], laidTests := true, laidLooks := .later }
def YearsMeansUptoCardSaid : Prop := Claim7.holds Tryz.pinned (.plain (OpenSpec.upto yearsMeansSpec)) yearsMeansUptoCard

/-- THE SECOND FORM's CARD OF 'gyttjalaw06.YearsWindows'. -/
def yearsWindowsUptoCard : Claim7 := { stood := { row := yearsWindowsUptoRow, standIns := [], harness := (true, "dee64ea6e7eb08ad402d580c32560d0b294c29c06f253254ef35904ea93e7bec"), looks := false }, kinds := [], alts := [], laidByText := true, laidKinds := [.data, .data], laidTests := true, laidLooks := .later }
def YearsWindowsUptoCardSaid : Prop := Claim7.holds Tryz.pinned (.plain (OpenSpec.upto yearsWindowsSpec)) yearsWindowsUptoCard
end Rows
end Go.Proofs.YtngjpeoloaeneaaGreatDoor
