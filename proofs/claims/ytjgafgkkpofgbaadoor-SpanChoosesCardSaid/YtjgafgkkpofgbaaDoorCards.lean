/-
  DERIVED. GIVEN WITH THE SEED: THE CARDS: each row of YtjgafgkkpofgbaaDoorRows.lean that lists a variable, with what it lists TIED to the program's text (the seventh form; the later family's looks); each row that meets fmt, with fmt's text TOLD by the authors' own Lean function (tested against real Go, not proved from fmt's source: count such statements apart). THE CARD IS WHAT COUNTS. Prove the row's statement (the work); the ties are given (YtjgafgkkpofgbaaDoorTie.lean); close each card by the builder's one call (the guide's Derived/Test/ToyasCard.lean, 'card_holds'). Laid BY PROGRAM, IN A SANDBOX (cutbox-door.mjs). By AI agents, Wed Nov 11 2026. No macro, syntax, notation, axiom, sorry.
-/
import Derived.Test.YtjgafgkkpofgbaaDoorRows
import GoSem.ClaimSeven
namespace Go.Proofs.YtjgafgkkpofgbaaDoor
namespace Rows

/-- THE TIED CARD OF 'gyttjalaw02.SpanWithout'. -/
def spanWithoutCard : Claim7 := { stood := { row := spanWithoutRow, standIns := [], harness := (true, "7bd8e55d2ef069cddbfd4cb99272aaf7f0cae2ff1d1f51a2dabd4dcfa49dbf05"), looks := false }, kinds := [], alts := [], laidByText := true, laidKinds := [.data], laidTests := true, laidLooks := .later }
def SpanWithoutCardSaid : Prop := Claim7.holds Tryd.pinned (.plain (OpenSpec.ofChange spanWithoutSpec)) spanWithoutCard

/-- THE TIED CARD OF 'gyttjalaw02.SpanWalks'. -/
def spanWalksCard : Claim7 := { stood := { row := spanWalksRow, standIns := [], harness := (true, "7bd8e55d2ef069cddbfd4cb99272aaf7f0cae2ff1d1f51a2dabd4dcfa49dbf05"), looks := false }, kinds := [], alts := [], laidByText := true, laidKinds := [.data], laidTests := true, laidLooks := .later }
def SpanWalksCardSaid : Prop := Claim7.holds Tryd.pinned (.plain (OpenSpec.ofChange spanWalksSpec)) spanWalksCard

/-- THE TIED CARD OF 'gyttjalaw02.SpanKeeps'. -/
def spanKeepsCard : Claim7 := { stood := { row := spanKeepsRow, standIns := [], harness := (true, "7bd8e55d2ef069cddbfd4cb99272aaf7f0cae2ff1d1f51a2dabd4dcfa49dbf05"), looks := false }, kinds := [], alts := [], laidByText := true, laidKinds := [.data], laidTests := true, laidLooks := .later }
def SpanKeepsCardSaid : Prop := Claim7.holds Tryd.pinned (.plain (OpenSpec.ofChange spanKeepsSpec)) spanKeepsCard

/-- THE TIED CARD OF 'gyttjalaw02.SpanCloses'. -/
def spanClosesCard : Claim7 := { stood := { row := spanClosesRow, standIns := [], harness := (true, "7bd8e55d2ef069cddbfd4cb99272aaf7f0cae2ff1d1f51a2dabd4dcfa49dbf05"), looks := false }, kinds := [], alts := [], laidByText := true, laidKinds := [.data], laidTests := true, laidLooks := .later }
def SpanClosesCardSaid : Prop := Claim7.holds Tryd.pinned (.plain (OpenSpec.ofChange spanClosesSpec)) spanClosesCard

/-- THE TIED CARD OF 'gyttjalaw02.SpanNarrows'. -/
def spanNarrowsCard : Claim7 := { stood := { row := spanNarrowsRow, standIns := [], harness := (true, "7bd8e55d2ef069cddbfd4cb99272aaf7f0cae2ff1d1f51a2dabd4dcfa49dbf05"), looks := false }, kinds := [], alts := [], laidByText := true, laidKinds := [.data], laidTests := true, laidLooks := .later }
def SpanNarrowsCardSaid : Prop := Claim7.holds Tryd.pinned (.plain (OpenSpec.ofChange spanNarrowsSpec)) spanNarrowsCard

/-- THE TIED CARD OF 'gyttjalaw02.SpanChooses'. -/
def spanChoosesCard : Claim7 := { stood := { row := spanChoosesRow, standIns := [], harness := (true, "7bd8e55d2ef069cddbfd4cb99272aaf7f0cae2ff1d1f51a2dabd4dcfa49dbf05"), looks := false }, kinds := [], alts := [], laidByText := true, laidKinds := [.data], laidTests := true, laidLooks := .later }
def SpanChoosesCardSaid : Prop := Claim7.holds Tryd.pinned (.plain (OpenSpec.ofChange spanChoosesSpec)) spanChoosesCard

/-- THE TIED CARD OF 'gyttjalaw02.SpanExact'. -/
def spanExactCard : Claim7 := { stood := { row := spanExactRow, standIns := [], harness := (true, "7bd8e55d2ef069cddbfd4cb99272aaf7f0cae2ff1d1f51a2dabd4dcfa49dbf05"), looks := false }, kinds := [], alts := [], laidByText := true, laidKinds := [.data], laidTests := true, laidLooks := .later }
def SpanExactCardSaid : Prop := Claim7.holds Tryd.pinned (.plain (OpenSpec.ofChange spanExactSpec)) spanExactCard

/-- THE TIED CARD OF 'gyttjalaw02.SpanExtended'. -/
def spanExtendedCard : Claim7 := { stood := { row := spanExtendedRow, standIns := [], harness := (true, "7bd8e55d2ef069cddbfd4cb99272aaf7f0cae2ff1d1f51a2dabd4dcfa49dbf05"), looks := false }, kinds := [], alts := [], laidByText := true, laidKinds := [.data], laidTests := true, laidLooks := .later }
def SpanExtendedCardSaid : Prop := Claim7.holds Tryd.pinned (.plain (OpenSpec.ofChange spanExtendedSpec)) spanExtendedCard

/-- THE TIED CARD OF 'gyttjalaw02.SpanChains'. -/
def spanChainsCard : Claim7 := { stood := { row := spanChainsRow, standIns := [], harness := (true, "7bd8e55d2ef069cddbfd4cb99272aaf7f0cae2ff1d1f51a2dabd4dcfa49dbf05"), looks := false }, kinds := [], alts := [], laidByText := true, laidKinds := [.data], laidTests := true, laidLooks := .later }
def SpanChainsCardSaid : Prop := Claim7.holds Tryd.pinned (.plain (OpenSpec.ofChange spanChainsSpec)) spanChainsCard

/-- THE TIED CARD OF 'gyttjalaw02.SpanBounds'. -/
def spanBoundsCard : Claim7 := { stood := { row := spanBoundsRow, standIns := [], harness := (true, "7bd8e55d2ef069cddbfd4cb99272aaf7f0cae2ff1d1f51a2dabd4dcfa49dbf05"), looks := false }, kinds := [], alts := [], laidByText := true, laidKinds := [.data], laidTests := true, laidLooks := .later }
def SpanBoundsCardSaid : Prop := Claim7.holds Tryd.pinned (.plain (OpenSpec.ofChange spanBoundsSpec)) spanBoundsCard

/-- THE SECOND FORM's CARD OF 'gyttjalaw02.SpanWithout'. -/
def spanWithoutUptoCard : Claim7 := { stood := { row := spanWithoutUptoRow, standIns := [], harness := (true, "7bd8e55d2ef069cddbfd4cb99272aaf7f0cae2ff1d1f51a2dabd4dcfa49dbf05"), looks := false }, kinds := [], alts := [], laidByText := true, laidKinds := [.data], laidTests := true, laidLooks := .later }
def SpanWithoutUptoCardSaid : Prop := Claim7.holds Tryd.pinned (.plain (OpenSpec.upto spanWithoutSpec)) spanWithoutUptoCard

/-- THE SECOND FORM's CARD OF 'gyttjalaw02.SpanWalks'. -/
def spanWalksUptoCard : Claim7 := { stood := { row := spanWalksUptoRow, standIns := [], harness := (true, "7bd8e55d2ef069cddbfd4cb99272aaf7f0cae2ff1d1f51a2dabd4dcfa49dbf05"), looks := false }, kinds := [], alts := [], laidByText := true, laidKinds := [.data], laidTests := true, laidLooks := .later }
def SpanWalksUptoCardSaid : Prop := Claim7.holds Tryd.pinned (.plain (OpenSpec.upto spanWalksSpec)) spanWalksUptoCard

/-- THE SECOND FORM's CARD OF 'gyttjalaw02.SpanKeeps'. -/
def spanKeepsUptoCard : Claim7 := { stood := { row := spanKeepsUptoRow, standIns := [], harness := (true, "7bd8e55d2ef069cddbfd4cb99272aaf7f0cae2ff1d1f51a2dabd4dcfa49dbf05"), looks := false }, kinds := [], alts := [], laidByText := true, laidKinds := [.data], laidTests := true, laidLooks := .later }
def SpanKeepsUptoCardSaid : Prop := Claim7.holds Tryd.pinned (.plain (OpenSpec.upto spanKeepsSpec)) spanKeepsUptoCard

/-- THE SECOND FORM's CARD OF 'gyttjalaw02.SpanCloses'. -/
def spanClosesUptoCard : Claim7 := { stood := { row := spanClosesUptoRow, standIns := [], harness := (true, "7bd8e55d2ef069cddbfd4cb99272aaf7f0cae2ff1d1f51a2dabd4dcfa49dbf05"), looks := false }, kinds := [], alts := [], laidByText := true, laidKinds := [.data], laidTests := true, laidLooks := .later }
def SpanClosesUptoCardSaid : Prop := Claim7.holds Tryd.pinned (.plain (OpenSpec.upto spanClosesSpec)) spanClosesUptoCard

/-- THE SECOND FORM's CARD OF 'gyttjalaw02.SpanNarrows'. -/
def spanNarrowsUptoCard : Claim7 := { stood := { row := spanNarrowsUptoRow, standIns := [], harness := (true, "7bd8e55d2ef069cddbfd4cb99272aaf7f0cae2ff1d1f51a2dabd4dcfa49dbf05"), looks := false }, kinds := [], alts := [], laidByText := true, laidKinds := [.data], laidTests := true, laidLooks := .later }
def SpanNarrowsUptoCardSaid : Prop := Claim7.holds Tryd.pinned (.plain (OpenSpec.upto spanNarrowsSpec)) spanNarrowsUptoCard

/-- THE SECOND FORM's CARD OF 'gyttjalaw02.SpanChooses'. -/
def spanChoosesUptoCard : Claim7 := { stood := { row := spanChoosesUptoRow, standIns := [], harness := (true, "7bd8e55d2ef069cddbfd4cb99272aaf7f0cae2ff1d1f51a2dabd4dcfa49dbf05"), looks := false }, kinds := [], alts := [], laidByText := true, laidKinds := [.data], laidTests := true, laidLooks := .later }
def SpanChoosesUptoCardSaid : Prop := Claim7.holds Tryd.pinned (.plain (OpenSpec.upto spanChoosesSpec)) spanChoosesUptoCard

/-- THE SECOND FORM's CARD OF 'gyttjalaw02.SpanExact'. -/
def spanExactUptoCard : Claim7 := { stood := { row := spanExactUptoRow, standIns := [], harness := (true, "7bd8e55d2ef069cddbfd4cb99272aaf7f0cae2ff1d1f51a2dabd4dcfa49dbf05"), looks := false }, kinds := [], alts := [], laidByText := true, laidKinds := [.data], laidTests := true, laidLooks := .later }
def SpanExactUptoCardSaid : Prop := Claim7.holds Tryd.pinned (.plain (OpenSpec.upto spanExactSpec)) spanExactUptoCard

/-- THE SECOND FORM's CARD OF 'gyttjalaw02.SpanExtended'. -/
def spanExtendedUptoCard : Claim7 := { stood := { row := spanExtendedUptoRow, standIns := [], harness := (true, "7bd8e55d2ef069cddbfd4cb99272aaf7f0cae2ff1d1f51a2dabd4dcfa49dbf05"), looks := false }, kinds := [], alts := [], laidByText := true, laidKinds := [.data], laidTests := true, laidLooks := .later }
def SpanExtendedUptoCardSaid : Prop := Claim7.holds Tryd.pinned (.plain (OpenSpec.upto spanExtendedSpec)) spanExtendedUptoCard

/-- THE SECOND FORM's CARD OF 'gyttjalaw02.SpanChains'. -/
def spanChainsUptoCard : Claim7 := { stood := { row := spanChainsUptoRow, standIns := [], harness := (true, "7bd8e55d2ef069cddbfd4cb99272aaf7f0cae2ff1d1f51a2dabd4dcfa49dbf05"), looks := false }, kinds := [], alts := [], laidByText := true, laidKinds := [.data], laidTests := true, laidLooks := .later }
def SpanChainsUptoCardSaid : Prop := Claim7.holds Tryd.pinned (.plain (OpenSpec.upto spanChainsSpec)) spanChainsUptoCard

/-- THE SECOND FORM's CARD OF 'gyttjalaw02.SpanBounds'. -/
def spanBoundsUptoCard : Claim7 := { stood := { row := spanBoundsUptoRow, standIns := [], harness := (true, "7bd8e55d2ef069cddbfd4cb99272aaf7f0cae2ff1d1f51a2dabd4dcfa49dbf05"), looks := false }, kinds := [], alts := [], laidByText := true, laidKinds := [.data], laidTests := true, laidLooks := .later }
def SpanBoundsUptoCardSaid : Prop := Claim7.holds Tryd.pinned (.plain (OpenSpec.upto spanBoundsSpec)) spanBoundsUptoCard
end Rows
end Go.Proofs.YtjgafgkkpofgbaaDoor
