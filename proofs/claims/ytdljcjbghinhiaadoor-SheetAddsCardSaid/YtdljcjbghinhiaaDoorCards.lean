/-
  DERIVED. GIVEN WITH THE SEED: THE CARDS: each row of YtdljcjbghinhiaaDoorRows.lean that lists a variable, with what it lists TIED to the program's text (the seventh form; the later family's looks); each row that meets fmt, with fmt's text TOLD by the authors' own Lean function (tested against real Go, not proved from fmt's source: count such statements apart). THE CARD IS WHAT COUNTS. Prove the row's statement (the work); the ties are given (YtdljcjbghinhiaaDoorTie.lean); close each card by the builder's one call (the guide's Derived/Test/ToyasCard.lean, 'card_holds'). Laid BY PROGRAM, IN A SANDBOX (cutbox-door.mjs). By AI agents, Wed Nov 11 2026. No macro, syntax, notation, axiom, sorry.
-/
import Derived.Test.YtdljcjbghinhiaaDoorRows
import GoSem.ClaimSeven
namespace Go.Proofs.YtdljcjbghinhiaaDoor
namespace Rows

/-- THE TIED CARD OF 'gyttjalaw01.SheetAdds'. -/
def sheetAddsCard : Claim7 := { stood := { row := sheetAddsRow, standIns := [], harness := (true, "46847767106fb55696be484d98f6bdbb14e06fa3fe59da307512b21a1aef8c64"), looks := true }, kinds := [], alts := [], laidByText := true, laidKinds := [.data], laidTests := true, laidLooks := .later }
def SheetAddsCardSaid : Prop := Claim7.holds Tryd.pinned (.plain (OpenSpec.ofChange sheetAddsSpec)) sheetAddsCard

/-- THE TIED CARD OF 'gyttjalaw01.SheetBetween'. -/
def sheetBetweenCard : Claim7 := { stood := { row := sheetBetweenRow, standIns := [], harness := (true, "46847767106fb55696be484d98f6bdbb14e06fa3fe59da307512b21a1aef8c64"), looks := true }, kinds := [], alts := [], laidByText := true, laidKinds := [.data], laidTests := true, laidLooks := .later }
def SheetBetweenCardSaid : Prop := Claim7.holds Tryd.pinned (.plain (OpenSpec.ofChange sheetBetweenSpec)) sheetBetweenCard

/-- THE TIED CARD OF 'gyttjalaw01.SheetSplices'. -/
def sheetSplicesCard : Claim7 := { stood := { row := sheetSplicesRow, standIns := [], harness := (true, "46847767106fb55696be484d98f6bdbb14e06fa3fe59da307512b21a1aef8c64"), looks := true }, kinds := [], alts := [], laidByText := true, laidKinds := [.data], laidTests := true, laidLooks := .later }
def SheetSplicesCardSaid : Prop := Claim7.holds Tryd.pinned (.plain (OpenSpec.ofChange sheetSplicesSpec)) sheetSplicesCard

/-- THE TIED CARD OF 'gyttjalaw01.SheetParts'. -/
def sheetPartsCard : Claim7 := { stood := { row := sheetPartsRow, standIns := [], harness := (true, "46847767106fb55696be484d98f6bdbb14e06fa3fe59da307512b21a1aef8c64"), looks := true }, kinds := [], alts := [], laidByText := true, laidKinds := [.data], laidTests := true, laidLooks := .later }
def SheetPartsCardSaid : Prop := Claim7.holds Tryd.pinned (.plain (OpenSpec.ofChange sheetPartsSpec)) sheetPartsCard

/-- THE TIED CARD OF 'gyttjalaw01.SheetTogether'. -/
def sheetTogetherCard : Claim7 := { stood := { row := sheetTogetherRow, standIns := [], harness := (true, "46847767106fb55696be484d98f6bdbb14e06fa3fe59da307512b21a1aef8c64"), looks := true }, kinds := [], alts := [], laidByText := true, laidKinds := [.data], laidTests := true, laidLooks := .later }
def SheetTogetherCardSaid : Prop := Claim7.holds Tryd.pinned (.plain (OpenSpec.ofChange sheetTogetherSpec)) sheetTogetherCard

/-- THE SECOND FORM's CARD OF 'gyttjalaw01.SheetAdds'. -/
def sheetAddsUptoCard : Claim7 := { stood := { row := sheetAddsUptoRow, standIns := [], harness := (true, "46847767106fb55696be484d98f6bdbb14e06fa3fe59da307512b21a1aef8c64"), looks := true }, kinds := [], alts := [], laidByText := true, laidKinds := [.data], laidTests := true, laidLooks := .later }
def SheetAddsUptoCardSaid : Prop := Claim7.holds Tryd.pinned (.plain (OpenSpec.upto sheetAddsSpec)) sheetAddsUptoCard

/-- THE SECOND FORM's CARD OF 'gyttjalaw01.SheetBetween'. -/
def sheetBetweenUptoCard : Claim7 := { stood := { row := sheetBetweenUptoRow, standIns := [], harness := (true, "46847767106fb55696be484d98f6bdbb14e06fa3fe59da307512b21a1aef8c64"), looks := true }, kinds := [], alts := [], laidByText := true, laidKinds := [.data], laidTests := true, laidLooks := .later }
def SheetBetweenUptoCardSaid : Prop := Claim7.holds Tryd.pinned (.plain (OpenSpec.upto sheetBetweenSpec)) sheetBetweenUptoCard

/-- THE SECOND FORM's CARD OF 'gyttjalaw01.SheetSplices'. -/
def sheetSplicesUptoCard : Claim7 := { stood := { row := sheetSplicesUptoRow, standIns := [], harness := (true, "46847767106fb55696be484d98f6bdbb14e06fa3fe59da307512b21a1aef8c64"), looks := true }, kinds := [], alts := [], laidByText := true, laidKinds := [.data], laidTests := true, laidLooks := .later }
def SheetSplicesUptoCardSaid : Prop := Claim7.holds Tryd.pinned (.plain (OpenSpec.upto sheetSplicesSpec)) sheetSplicesUptoCard

/-- THE SECOND FORM's CARD OF 'gyttjalaw01.SheetParts'. -/
def sheetPartsUptoCard : Claim7 := { stood := { row := sheetPartsUptoRow, standIns := [], harness := (true, "46847767106fb55696be484d98f6bdbb14e06fa3fe59da307512b21a1aef8c64"), looks := true }, kinds := [], alts := [], laidByText := true, laidKinds := [.data], laidTests := true, laidLooks := .later }
def SheetPartsUptoCardSaid : Prop := Claim7.holds Tryd.pinned (.plain (OpenSpec.upto sheetPartsSpec)) sheetPartsUptoCard

/-- THE SECOND FORM's CARD OF 'gyttjalaw01.SheetTogether'. -/
def sheetTogetherUptoCard : Claim7 := { stood := { row := sheetTogetherUptoRow, standIns := [], harness := (true, "46847767106fb55696be484d98f6bdbb14e06fa3fe59da307512b21a1aef8c64"), looks := true }, kinds := [], alts := [], laidByText := true, laidKinds := [.data], laidTests := true, laidLooks := .later }
def SheetTogetherUptoCardSaid : Prop := Claim7.holds Tryd.pinned (.plain (OpenSpec.upto sheetTogetherSpec)) sheetTogetherUptoCard
end Rows
end Go.Proofs.YtdljcjbghinhiaaDoor
