/-
  DERIVED. GIVEN WITH THE SEED: THE CARDS: each row of YtnfhgnbniajhoaaDoorRows.lean that lists a variable, with what it lists TIED to the program's text (the seventh form; the later family's looks); each row that meets fmt, with fmt's text TOLD by the authors' own Lean function (tested against real Go, not proved from fmt's source: count such statements apart). THE CARD IS WHAT COUNTS. Prove the row's statement (the work); the ties are given (YtnfhgnbniajhoaaDoorTie.lean); close each card by the builder's one call (the guide's Derived/Test/ToyasCard.lean, 'card_holds'). Laid BY PROGRAM, IN A SANDBOX (cutbox-door.mjs). By AI agents, Wed Nov 11 2026. No macro, syntax, notation, axiom, sorry.
-/
import Derived.Test.YtnfhgnbniajhoaaDoorRows
import GoSem.ClaimSeven
namespace Go.Proofs.YtnfhgnbniajhoaaDoor
namespace Rows

/-- THE TIED CARD OF 'gyttjalaw04.AshCommons'. -/
def ashCommonsCard : Claim7 := { stood := { row := ashCommonsRow, standIns := [], harness := (true, "ce7b1183168fc983272bfa7115bd3d39873de281d803080e173d185f7233429e"), looks := false }, kinds := [], alts := [], laidByText := true, laidKinds := [.data], laidTests := true, laidLooks := .later }
def AshCommonsCardSaid : Prop := Claim7.holds Tryd.pinned (.plain (OpenSpec.ofChange ashCommonsSpec)) ashCommonsCard

/-- THE TIED CARD OF 'gyttjalaw04.AshCompares'. -/
def ashComparesCard : Claim7 := { stood := { row := ashComparesRow, standIns := [], harness := (true, "ce7b1183168fc983272bfa7115bd3d39873de281d803080e173d185f7233429e"), looks := false }, kinds := [], alts := [], laidByText := true, laidKinds := [.data], laidTests := true, laidLooks := .later }
def AshComparesCardSaid : Prop := Claim7.holds Tryd.pinned (.plain (OpenSpec.ofChange ashComparesSpec)) ashComparesCard

/-- THE TIED CARD OF 'gyttjalaw04.AshClaims'. -/
def ashClaimsCard : Claim7 := { stood := { row := ashClaimsRow, standIns := [], harness := (true, "ce7b1183168fc983272bfa7115bd3d39873de281d803080e173d185f7233429e"), looks := false }, kinds := [], alts := [], laidByText := true, laidKinds := [.data], laidTests := true, laidLooks := .later }
def AshClaimsCardSaid : Prop := Claim7.holds Tryd.pinned (.plain (OpenSpec.ofChange ashClaimsSpec)) ashClaimsCard

/-- THE SECOND FORM's CARD OF 'gyttjalaw04.AshCommons'. -/
def ashCommonsUptoCard : Claim7 := { stood := { row := ashCommonsUptoRow, standIns := [], harness := (true, "ce7b1183168fc983272bfa7115bd3d39873de281d803080e173d185f7233429e"), looks := false }, kinds := [], alts := [], laidByText := true, laidKinds := [.data], laidTests := true, laidLooks := .later }
def AshCommonsUptoCardSaid : Prop := Claim7.holds Tryd.pinned (.plain (OpenSpec.upto ashCommonsSpec)) ashCommonsUptoCard

/-- THE SECOND FORM's CARD OF 'gyttjalaw04.AshCompares'. -/
def ashComparesUptoCard : Claim7 := { stood := { row := ashComparesUptoRow, standIns := [], harness := (true, "ce7b1183168fc983272bfa7115bd3d39873de281d803080e173d185f7233429e"), looks := false }, kinds := [], alts := [], laidByText := true, laidKinds := [.data], laidTests := true, laidLooks := .later }
def AshComparesUptoCardSaid : Prop := Claim7.holds Tryd.pinned (.plain (OpenSpec.upto ashComparesSpec)) ashComparesUptoCard

/-- THE SECOND FORM's CARD OF 'gyttjalaw04.AshClaims'. -/
def ashClaimsUptoCard : Claim7 := { stood := { row := ashClaimsUptoRow, standIns := [], harness := (true, "ce7b1183168fc983272bfa7115bd3d39873de281d803080e173d185f7233429e"), looks := false }, kinds := [], alts := [], laidByText := true, laidKinds := [.data], laidTests := true, laidLooks := .later }
def AshClaimsUptoCardSaid : Prop := Claim7.holds Tryd.pinned (.plain (OpenSpec.upto ashClaimsSpec)) ashClaimsUptoCard
end Rows
end Go.Proofs.YtnfhgnbniajhoaaDoor
