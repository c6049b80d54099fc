/-
  DERIVED. GIVEN WITH THE SEED: THE CARDS: each row of YtlkpikdfbodhoaaDoorRows.lean that lists a variable, with what it lists TIED to the program's text (the seventh form; the later family's looks); each row that meets fmt, with fmt's text TOLD by the authors' own Lean function (tested against real Go, not proved from fmt's source: count such statements apart). THE CARD IS WHAT COUNTS. Prove the row's statement (the work); the ties are given (YtlkpikdfbodhoaaDoorTie.lean); close each card by the builder's one call (the guide's Derived/Test/ToyasCard.lean, 'card_holds'). Laid BY PROGRAM, IN A SANDBOX (cutbox-door.mjs). By AI agents, Wed Nov 11 2026. No macro, syntax, notation, axiom, sorry.
-/
import Derived.Test.YtlkpikdfbodhoaaDoorRows
import GoSem.ClaimSeven
namespace Go.Proofs.YtlkpikdfbodhoaaDoor
namespace Rows

/-- THE TIED CARD OF 'gyttjalaw02.SpanChains'. -/
def spanChainsCard : Claim7 := { stood := { row := spanChainsRow, standIns := [], harness := (true, "37389b4e26ce115d518155a1eb3ebf5d9a2f13ab8946a3e00d1b08aa4d9b77c5"), looks := false }, kinds := [], alts := [], laidByText := true, laidKinds := [.data], laidTests := true, laidLooks := .later }
def SpanChainsCardSaid : Prop := Claim7.holds Tryd.pinned (.plain (OpenSpec.ofChange spanChainsSpec)) spanChainsCard

/-- THE TIED CARD OF 'gyttjalaw02.SpanBounds'. -/
def spanBoundsCard : Claim7 := { stood := { row := spanBoundsRow, standIns := [], harness := (true, "37389b4e26ce115d518155a1eb3ebf5d9a2f13ab8946a3e00d1b08aa4d9b77c5"), looks := false }, kinds := [], alts := [], laidByText := true, laidKinds := [.data], laidTests := true, laidLooks := .later }
def SpanBoundsCardSaid : Prop := Claim7.holds Tryd.pinned (.plain (OpenSpec.ofChange spanBoundsSpec)) spanBoundsCard

/-- THE TIED CARD OF 'gyttjalaw02.SpanNets'. -/
def spanNetsCard : Claim7 := { stood := { row := spanNetsRow, standIns := [], harness := (true, "37389b4e26ce115d518155a1eb3ebf5d9a2f13ab8946a3e00d1b08aa4d9b77c5"), looks := false }, kinds := [], alts := [], laidByText := true, laidKinds := [.data], laidTests := true, laidLooks := .later }
def SpanNetsCardSaid : Prop := Claim7.holds Tryd.pinned (.plain (OpenSpec.ofChange spanNetsSpec)) spanNetsCard

/-- THE TIED CARD OF 'gyttjalaw02.SpanGrown'. -/
def spanGrownCard : Claim7 := { stood := { row := spanGrownRow, standIns := [], harness := (true, "37389b4e26ce115d518155a1eb3ebf5d9a2f13ab8946a3e00d1b08aa4d9b77c5"), looks := false }, kinds := [], alts := [], laidByText := true, laidKinds := [.data], laidTests := true, laidLooks := .later }
def SpanGrownCardSaid : Prop := Claim7.holds Tryd.pinned (.plain (OpenSpec.ofChange spanGrownSpec)) spanGrownCard

/-- THE TIED CARD OF 'gyttjalaw02.SpanChecks'. -/
def spanChecksCard : Claim7 := { stood := { row := spanChecksRow, standIns := [], harness := (true, "37389b4e26ce115d518155a1eb3ebf5d9a2f13ab8946a3e00d1b08aa4d9b77c5"), looks := false }, kinds := [], alts := [], laidByText := true, laidKinds := [.data], laidTests := true, laidLooks := .later }
def SpanChecksCardSaid : Prop := Claim7.holds Tryd.pinned (.plain (OpenSpec.ofChange spanChecksSpec)) spanChecksCard

/-- THE TIED CARD OF 'gyttjalaw02.SpanConflicts'. -/
def spanConflictsCard : Claim7 := { stood := { row := spanConflictsRow, standIns := [], harness := (true, "37389b4e26ce115d518155a1eb3ebf5d9a2f13ab8946a3e00d1b08aa4d9b77c5"), looks := false }, kinds := [], alts := [], laidByText := true, laidKinds := [.data], laidTests := true, laidLooks := .later }
def SpanConflictsCardSaid : Prop := Claim7.holds Tryd.pinned (.plain (OpenSpec.ofChange spanConflictsSpec)) spanConflictsCard

/-- THE TIED CARD OF 'gyttjalaw02.SpanNeedless'. -/
def spanNeedlessCard : Claim7 := { stood := { row := spanNeedlessRow, standIns := [], harness := (true, "37389b4e26ce115d518155a1eb3ebf5d9a2f13ab8946a3e00d1b08aa4d9b77c5"), looks := false }, kinds := [], alts := [], laidByText := true, laidKinds := [.data], laidTests := true, laidLooks := .later }
def SpanNeedlessCardSaid : Prop := Claim7.holds Tryd.pinned (.plain (OpenSpec.ofChange spanNeedlessSpec)) spanNeedlessCard

/-- THE SECOND FORM's CARD OF 'gyttjalaw02.SpanChains'. -/
def spanChainsUptoCard : Claim7 := { stood := { row := spanChainsUptoRow, standIns := [], harness := (true, "37389b4e26ce115d518155a1eb3ebf5d9a2f13ab8946a3e00d1b08aa4d9b77c5"), looks := false }, kinds := [], alts := [], laidByText := true, laidKinds := [.data], laidTests := true, laidLooks := .later }
def SpanChainsUptoCardSaid : Prop := Claim7.holds Tryd.pinned (.plain (OpenSpec.upto spanChainsSpec)) spanChainsUptoCard

/-- THE SECOND FORM's CARD OF 'gyttjalaw02.SpanBounds'. -/
def spanBoundsUptoCard : Claim7 := { stood := { row := spanBoundsUptoRow, standIns := [], harness := (true, "37389b4e26ce115d518155a1eb3ebf5d9a2f13ab8946a3e00d1b08aa4d9b77c5"), looks := false }, kinds := [], alts := [], laidByText := true, laidKinds := [.data], laidTests := true, laidLooks := .later }
def SpanBoundsUptoCardSaid : Prop := Claim7.holds Tryd.pinned (.plain (OpenSpec.upto spanBoundsSpec)) spanBoundsUptoCard

/-- THE SECOND FORM's CARD OF 'gyttjalaw02.SpanNets'. -/
def spanNetsUptoCard : Claim7 := { stood := { row := spanNetsUptoRow, standIns := [], harness := (true, "37389b4e26ce115d518155a1eb3ebf5d9a2f13ab8946a3e00d1b08aa4d9b77c5"), looks := false }, kinds := [], alts := [], laidByText := true, laidKinds := [.data], laidTests := true, laidLooks := .later }
def SpanNetsUptoCardSaid : Prop := Claim7.holds Tryd.pinned (.plain (OpenSpec.upto spanNetsSpec)) spanNetsUptoCard

/-- THE SECOND FORM's CARD OF 'gyttjalaw02.SpanGrown'. -/
def spanGrownUptoCard : Claim7 := { stood := { row := spanGrownUptoRow, standIns := [], harness := (true, "37389b4e26ce115d518155a1eb3ebf5d9a2f13ab8946a3e00d1b08aa4d9b77c5"), looks := false }, kinds := [], alts := [], laidByText := true, laidKinds := [.data], laidTests := true, laidLooks := .later }
def SpanGrownUptoCardSaid : Prop := Claim7.holds Tryd.pinned (.plain (OpenSpec.upto spanGrownSpec)) spanGrownUptoCard

/-- THE SECOND FORM's CARD OF 'gyttjalaw02.SpanChecks'. -/
def spanChecksUptoCard : Claim7 := { stood := { row := spanChecksUptoRow, standIns := [], harness := (true, "37389b4e26ce115d518155a1eb3ebf5d9a2f13ab8946a3e00d1b08aa4d9b77c5"), looks := false }, kinds := [], alts := [], laidByText := true, laidKinds := [.data], laidTests := true, laidLooks := .later }
def SpanChecksUptoCardSaid : Prop := Claim7.holds Tryd.pinned (.plain (OpenSpec.upto spanChecksSpec)) spanChecksUptoCard

/-- THE SECOND FORM's CARD OF 'gyttjalaw02.SpanConflicts'. -/
def spanConflictsUptoCard : Claim7 := { stood := { row := spanConflictsUptoRow, standIns := [], harness := (true, "37389b4e26ce115d518155a1eb3ebf5d9a2f13ab8946a3e00d1b08aa4d9b77c5"), looks := false }, kinds := [], alts := [], laidByText := true, laidKinds := [.data], laidTests := true, laidLooks := .later }
def SpanConflictsUptoCardSaid : Prop := Claim7.holds Tryd.pinned (.plain (OpenSpec.upto spanConflictsSpec)) spanConflictsUptoCard

/-- THE SECOND FORM's CARD OF 'gyttjalaw02.SpanNeedless'. -/
def spanNeedlessUptoCard : Claim7 := { stood := { row := spanNeedlessUptoRow, standIns := [], harness := (true, "37389b4e26ce115d518155a1eb3ebf5d9a2f13ab8946a3e00d1b08aa4d9b77c5"), looks := false }, kinds := [], alts := [], laidByText := true, laidKinds := [.data], laidTests := true, laidLooks := .later }
def SpanNeedlessUptoCardSaid : Prop := Claim7.holds Tryd.pinned (.plain (OpenSpec.upto spanNeedlessSpec)) spanNeedlessUptoCard
end Rows
end Go.Proofs.YtlkpikdfbodhoaaDoor
