/-
  DERIVED. GIVEN WITH THE SEED: THE CARDS: each row of YtmncdmpeeibgmaaGreatDoorRows.lean that lists a variable, with what it lists TIED to the program's text (the seventh form; the later family's looks); each row that meets fmt, with fmt's text TOLD by the authors' own Lean function (tested against real Go, not proved from fmt's source: count such statements apart). THE CARD IS WHAT COUNTS. Prove the row's statement (the work); the ties are given (YtmncdmpeeibgmaaGreatDoorTie.lean); close each card by the builder's one call (the guide's Derived/Test/ToyasCard.lean, 'card_holds'). Laid BY PROGRAM, IN A SANDBOX (cutbox-door.mjs). By AI agents, Wed Nov 11 2026. No macro, syntax, notation, axiom, sorry.
-/
import Derived.Test.YtmncdmpeeibgmaaGreatDoorRows
import GoSem.ClaimSeven
namespace Go.Proofs.YtmncdmpeeibgmaaGreatDoor
namespace Rows

/-- THE TIED CARD OF 'gyttjalaw05.CasesChecks'. -/
def casesChecksCard : Claim7 := { stood := { row := casesChecksRow, standIns := [], harness := (true, "5948a807048b972684dd8627fdc2a1f594121864920bf2b05bbe24c6a984bc89"), looks := false }, kinds := [], alts := [], laidByText := true, laidKinds := [.data, .data], laidTests := true, laidLooks := .later }
def CasesChecksCardSaid : Prop := Claim7.holds Tryz.pinned (.plain (OpenSpec.ofChange casesChecksSpec)) casesChecksCard

/-- THE TIED CARD OF 'gyttjalaw05.CasesAt'. -/
def casesAtCard : Claim7 := { stood := { row := casesAtRow, standIns := [], harness := (true, "5948a807048b972684dd8627fdc2a1f594121864920bf2b05bbe24c6a984bc89"), looks := false }, kinds := [], alts := [], laidByText := true, laidKinds := [.data, .data], laidTests := true, laidLooks := .later }
def CasesAtCardSaid : Prop := Claim7.holds Tryz.pinned (.plain (OpenSpec.ofChange casesAtSpec)) casesAtCard

/-- THE SECOND FORM's CARD OF 'gyttjalaw05.CasesChecks'. -/
def casesChecksUptoCard : Claim7 := { stood := { row := casesChecksUptoRow, standIns := [], harness := (true, "5948a807048b972684dd8627fdc2a1f594121864920bf2b05bbe24c6a984bc89"), looks := false }, kinds := [], alts := [], laidByText := true, laidKinds := [.data, .data], laidTests := true, laidLooks := .later }
def CasesChecksUptoCardSaid : Prop := Claim7.holds Tryz.pinned (.plain (OpenSpec.upto casesChecksSpec)) casesChecksUptoCard

/-- THE SECOND FORM's CARD OF 'gyttjalaw05.CasesAt'. -/
def casesAtUptoCard : Claim7 := { stood := { row := casesAtUptoRow, standIns := [], harness := (true, "5948a807048b972684dd8627fdc2a1f594121864920bf2b05bbe24c6a984bc89"), looks := false }, kinds := [], alts := [], laidByText := true, laidKinds := [.data, .data], laidTests := true, laidLooks := .later }
def CasesAtUptoCardSaid : Prop := Claim7.holds Tryz.pinned (.plain (OpenSpec.upto casesAtSpec)) casesAtUptoCard
end Rows
end Go.Proofs.YtmncdmpeeibgmaaGreatDoor
