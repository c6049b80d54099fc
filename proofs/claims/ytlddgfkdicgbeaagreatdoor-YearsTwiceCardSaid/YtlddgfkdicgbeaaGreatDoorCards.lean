/-
  DERIVED. GIVEN WITH THE SEED: THE CARDS: each row of YtlddgfkdicgbeaaGreatDoorRows.lean that lists a variable, with what it lists TIED to the program's text (the seventh form; the later family's looks); each row that meets fmt, with fmt's text TOLD by the authors' own Lean function (tested against real Go, not proved from fmt's source: count such statements apart). THE CARD IS WHAT COUNTS. Prove the row's statement (the work); the ties are given (YtlddgfkdicgbeaaGreatDoorTie.lean); close each card by the builder's one call (the guide's Derived/Test/ToyasCard.lean, 'card_holds'). Laid BY PROGRAM, IN A SANDBOX (cutbox-door.mjs). By AI agents, Wed Nov 11 2026. No macro, syntax, notation, axiom, sorry.
-/
import Derived.Test.YtlddgfkdicgbeaaGreatDoorRows
import GoSem.ClaimSeven
namespace Go.Proofs.YtlddgfkdicgbeaaGreatDoor
namespace Rows

/-- THE TIED CARD OF 'gyttjalaw06.YearsSets'. -/
def yearsSetsCard : Claim7 := { stood := { row := yearsSetsRow, standIns := [], harness := (true, "f6f5eaaf08d482f7ba618aec17e2e80f1e65744ddc24ea5eec47f26c355e1dfb"), looks := false }, kinds := [], alts := [], laidByText := true, laidKinds := [.data, .data], laidTests := true, laidLooks := .later }
def YearsSetsCardSaid : Prop := Claim7.holds Tryz.pinned (.plain (OpenSpec.ofChange yearsSetsSpec)) yearsSetsCard

/-- THE TIED CARD OF 'gyttjalaw06.YearsSpreads'. -/
def yearsSpreadsCard : Claim7 := { stood := { row := yearsSpreadsRow, standIns := [], harness := (true, "f6f5eaaf08d482f7ba618aec17e2e80f1e65744ddc24ea5eec47f26c355e1dfb"), looks := false }, kinds := [], alts := [], laidByText := true, laidKinds := [.data, .data], laidTests := true, laidLooks := .later }
def YearsSpreadsCardSaid : Prop := Claim7.holds Tryz.pinned (.plain (OpenSpec.ofChange yearsSpreadsSpec)) yearsSpreadsCard

/-- THE TIED CARD OF 'gyttjalaw06.YearsAlgebra'. -/
def yearsAlgebraCard : Claim7 := { stood := { row := yearsAlgebraRow, standIns := [], harness := (true, "f6f5eaaf08d482f7ba618aec17e2e80f1e65744ddc24ea5eec47f26c355e1dfb"), looks := false }, kinds := [], alts := [], laidByText := true, laidKinds := [.data, .data], laidTests := true, laidLooks := .later }
def YearsAlgebraCardSaid : Prop := Claim7.holds Tryz.pinned (.plain (OpenSpec.ofChange yearsAlgebraSpec)) yearsAlgebraCard

/-- THE TIED CARD OF 'gyttjalaw06.YearsTwice'. -/
def yearsTwiceCard : Claim7 := { stood := { row := yearsTwiceRow, standIns := [], harness := (true, "f6f5eaaf08d482f7ba618aec17e2e80f1e65744ddc24ea5eec47f26c355e1dfb"), looks := false }, kinds := [], alts := [], laidByText := true, laidKinds := [.data, .data], laidTests := true, laidLooks := .later }
def YearsTwiceCardSaid : Prop := Claim7.holds Tryz.pinned (.plain (OpenSpec.ofChange yearsTwiceSpec)) yearsTwiceCard

/-- THE SECOND FORM's CARD OF 'gyttjalaw06.YearsSets'. -/
def yearsSetsUptoCard : Claim7 := { stood := { row := yearsSetsUptoRow, standIns := [], harness := (true, "f6f5eaaf08d482f7ba618aec17e2e80f1e65744ddc24ea5eec47f26c355e1dfb"), looks := false }, kinds := [], alts := [], laidByText := true, laidKinds := [.data, .data], laidTests := true, laidLooks := .later }
def YearsSetsUptoCardSaid : Prop := Claim7.holds Tryz.pinned (.plain (OpenSpec.upto yearsSetsSpec)) yearsSetsUptoCard

/-- THE SECOND FORM's CARD OF 'gyttjalaw06.YearsSpreads'. -/
def yearsSpreadsUptoCard : Claim7 := { stood := { row := yearsSpreadsUptoRow, standIns := [], harness := (true, "f6f5eaaf08d482f7ba618aec17e2e80f1e65744ddc24ea5eec47f26c355e1dfb"), looks := false }, kinds := [], alts := [], laidByText := true, laidKinds := [.data, .data], laidTests := true, laidLooks := .later }
def YearsSpreadsUptoCardSaid : Prop := Claim7.holds Tryz.pinned (.plain (OpenSpec.upto yearsSpreadsSpec)) yearsSpreadsUptoCard

/-- THE SECOND FORM's CARD OF 'gyttjalaw06.YearsAlgebra'. -/
def yearsAlgebraUptoCard : Claim7 := { stood := { row := yearsAlgebraUptoRow, standIns := [], harness := (true, "f6f5eaaf08d482f7ba618aec17e2e80f1e65744ddc24ea5eec47f26c355e1dfb"), looks := false }, kinds := [], alts := [], laidByText := true, laidKinds := [.data, .data], laidTests := true, laidLooks := .later }
def YearsAlgebraUptoCardSaid : Prop := Claim7.holds Tryz.pinned (.plain (OpenSpec.upto yearsAlgebraSpec)) yearsAlgebraUptoCard

/-- THE SECOND FORM's CARD OF 'gyttjalaw06.YearsTwice'. -/
def yearsTwiceUptoCard : Claim7 := { stood := { row := yearsTwiceUptoRow, standIns := [], harness := (true, "f6f5eaaf08d482f7ba618aec17e2e80f1e65744ddc24ea5eec47f26c355e1dfb"), looks := false }, kinds := [], alts := [], laidByText := true, laidKinds := [.data, .data], laidTests := true, laidLooks := .later }
def YearsTwiceUptoCardSaid : Prop := Claim7.holds Tryz.pinned (.plain (OpenSpec.upto yearsTwiceSpec)) yearsTwiceUptoCard
end Rows
end Go.Proofs.YtlddgfkdicgbeaaGreatDoor
