/-
  DERIVED. GIVEN WITH THE SEED: THE CARDS: each row of YtiikbfpaahkhfaaDoorRows.lean that lists a variable, with what it lists TIED to the program's text (the seventh form; the later family's looks); each row that meets fmt, with fmt's text TOLD by the authors' own Lean function (tested against real Go, not proved from fmt's source: count such statements apart). THE CARD IS WHAT COUNTS. Prove the row's statement (the work); the ties are given (YtiikbfpaahkhfaaDoorTie.lean); close each card by the builder's one call (the guide's Derived/Test/ToyasCard.lean, 'card_holds'). Laid BY PROGRAM, IN A SANDBOX (cutbox-door.mjs). By AI agents, Wed Nov 11 2026. No macro, syntax, notation, axiom, sorry.
-/
import Derived.Test.YtiikbfpaahkhfaaDoorRows
import GoSem.ClaimSeven
namespace Go.Proofs.YtiikbfpaahkhfaaDoor
namespace Rows

/-- THE TIED CARD OF 'gyttjalaw02.SpanWithout'. -/
def spanWithoutCard : Claim7 := { stood := { row := spanWithoutRow, standIns := [], harness := (true, "f4798261ee6271e526d26be30c112165ac33b41c091720647abc71de7b4c1b0b"), looks := false }, kinds := [], alts := [], laidByText := true, laidKinds := [.data], laidTests := true, laidLooks := .later }
def SpanWithoutCardSaid : Prop := Claim7.holds Tryd.pinned (.plain (OpenSpec.ofChange spanWithoutSpec)) spanWithoutCard

/-- THE TIED CARD OF 'gyttjalaw02.SpanWalks'. -/
def spanWalksCard : Claim7 := { stood := { row := spanWalksRow, standIns := [], harness := (true, "f4798261ee6271e526d26be30c112165ac33b41c091720647abc71de7b4c1b0b"), looks := false }, kinds := [], alts := [], laidByText := true, laidKinds := [.data], laidTests := true, laidLooks := .later }
def SpanWalksCardSaid : Prop := Claim7.holds Tryd.pinned (.plain (OpenSpec.ofChange spanWalksSpec)) spanWalksCard

/-- THE TIED CARD OF 'gyttjalaw02.SpanKeeps'. -/
def spanKeepsCard : Claim7 := { stood := { row := spanKeepsRow, standIns := [], harness := (true, "f4798261ee6271e526d26be30c112165ac33b41c091720647abc71de7b4c1b0b"), looks := false }, kinds := [], alts := [], laidByText := true, laidKinds := [.data], laidTests := true, laidLooks := .later }
def SpanKeepsCardSaid : Prop := Claim7.holds Tryd.pinned (.plain (OpenSpec.ofChange spanKeepsSpec)) spanKeepsCard

/-- THE SECOND FORM's CARD OF 'gyttjalaw02.SpanWithout'. -/
def spanWithoutUptoCard : Claim7 := { stood := { row := spanWithoutUptoRow, standIns := [], harness := (true, "f4798261ee6271e526d26be30c112165ac33b41c091720647abc71de7b4c1b0b"), looks := false }, kinds := [], alts := [], laidByText := true, laidKinds := [.data], laidTests := true, laidLooks := .later }
def SpanWithoutUptoCardSaid : Prop := Claim7.holds Tryd.pinned (.plain (OpenSpec.upto spanWithoutSpec)) spanWithoutUptoCard

/-- THE SECOND FORM's CARD OF 'gyttjalaw02.SpanWalks'. -/
def spanWalksUptoCard : Claim7 := { stood := { row := spanWalksUptoRow, standIns := [], harness := (true, "f4798261ee6271e526d26be30c112165ac33b41c091720647abc71de7b4c1b0b"), looks := false }, kinds := [], alts := [], laidByText := true, laidKinds := [.data], laidTests := true, laidLooks := .later }
def SpanWalksUptoCardSaid : Prop := Claim7.holds Tryd.pinned (.plain (OpenSpec.upto spanWalksSpec)) spanWalksUptoCard

/-- THE SECOND FORM's CARD OF 'gyttjalaw02.SpanKeeps'. -/
def spanKeepsUptoCard : Claim7 := { stood := { row := spanKeepsUptoRow, standIns := [], harness := (true, "f4798261ee6271e526d26be30c112165ac33b41c091720647abc71de7b4c1b0b"), looks := false }, kinds := [], alts := [], laidByText := true, laidKinds := [.data], laidTests := true, laidLooks := .later }
def SpanKeepsUptoCardSaid : Prop := Claim7.holds Tryd.pinned (.plain (OpenSpec.upto spanKeepsSpec)) spanKeepsUptoCard
end Rows
end Go.Proofs.YtiikbfpaahkhfaaDoor
