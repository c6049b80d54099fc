/-
  DERIVED. GIVEN WITH THE SEED: THE CARDS: each row of YtfemldhlanoakaaGreatDoorRows.lean that lists a variable, with what it lists TIED to the program's text (the seventh form; the later family's looks); each row that meets fmt, with fmt's text TOLD by the authors' own Lean function (tested against real Go, not proved from fmt's source: count such statements apart). THE CARD IS WHAT COUNTS. Prove the row's statement (the work); the ties are given (YtfemldhlanoakaaGreatDoorTie.lean); close each card by the builder's one call (the guide's Derived/Test/ToyasCard.lean, 'card_holds'). Laid BY PROGRAM, IN A SANDBOX (cutbox-door.mjs). By AI agents, Wed Nov 11 2026. No macro, syntax, notation, axiom, sorry.
-/
import Derived.Test.YtfemldhlanoakaaGreatDoorRows
import GoSem.ClaimSeven
namespace Go.Proofs.YtfemldhlanoakaaGreatDoor
namespace Rows

/-- THE TIED CARD OF 'gyttjalaw02.SpanAttains'. -/
def spanAttainsCard : Claim7 := { stood := { row := spanAttainsRow, standIns := [], harness := (true, "077c27f8f0563fb81b2254cc822db015fb687e0467fe1ee0e3bfaa2b29d58f84"), looks := false }, kinds := [], alts := [], laidByText := true, laidKinds := [.data], laidTests := true, laidLooks := .later }
def SpanAttainsCardSaid : Prop := Claim7.holds Tryz.pinned (.plain (OpenSpec.ofChange spanAttainsSpec)) spanAttainsCard

/-- THE TIED CARD OF 'gyttjalaw02.SpanCycles'. -/
def spanCyclesCard : Claim7 := { stood := { row := spanCyclesRow, standIns := [], harness := (true, "077c27f8f0563fb81b2254cc822db015fb687e0467fe1ee0e3bfaa2b29d58f84"), looks := false }, kinds := [], alts := [], laidByText := true, laidKinds := [.data], laidTests := true, laidLooks := .later }
def SpanCyclesCardSaid : Prop := Claim7.holds Tryz.pinned (.plain (OpenSpec.ofChange spanCyclesSpec)) spanCyclesCard

/-- THE TIED CARD OF 'gyttjalaw02.SpanConflict'. -/
def spanConflictCard : Claim7 := { stood := { row := spanConflictRow, standIns := [], harness := (true, "077c27f8f0563fb81b2254cc822db015fb687e0467fe1ee0e3bfaa2b29d58f84"), looks := false }, kinds := [], alts := [], laidByText := true, laidKinds := [.data], laidTests := true, laidLooks := .later }
def SpanConflictCardSaid : Prop := Claim7.holds Tryz.pinned (.plain (OpenSpec.ofChange spanConflictSpec)) spanConflictCard

/-- THE SECOND FORM's CARD OF 'gyttjalaw02.SpanAttains'. -/
def spanAttainsUptoCard : Claim7 := { stood := { row := spanAttainsUptoRow, standIns := [], harness := (true, "077c27f8f0563fb81b2254cc822db015fb687e0467fe1ee0e3bfaa2b29d58f84"), looks := false }, kinds := [], alts := [], laidByText := true, laidKinds := [.data], laidTests := true, laidLooks := .later }
def SpanAttainsUptoCardSaid : Prop := Claim7.holds Tryz.pinned (.plain (OpenSpec.upto spanAttainsSpec)) spanAttainsUptoCard

/-- THE SECOND FORM's CARD OF 'gyttjalaw02.SpanCycles'. -/
def spanCyclesUptoCard : Claim7 := { stood := { row := spanCyclesUptoRow, standIns := [], harness := (true, "077c27f8f0563fb81b2254cc822db015fb687e0467fe1ee0e3bfaa2b29d58f84"), looks := false }, kinds := [], alts := [], laidByText := true, laidKinds := [.data], laidTests := true, laidLooks := .later }
def SpanCyclesUptoCardSaid : Prop := Claim7.holds Tryz.pinned (.plain (OpenSpec.upto spanCyclesSpec)) spanCyclesUptoCard

/-- THE SECOND FORM's CARD OF 'gyttjalaw02.SpanConflict'. -/
def spanConflictUptoCard : Claim7 := { stood := { row := spanConflictUptoRow, standIns := [], harness := (true, "077c27f8f0563fb81b2254cc822db015fb687e0467fe1ee0e3bfaa2b29d58f84"), looks := false }, kinds := [], alts := [], laidByText := true, laidKinds := [.data], laidTests := true, laidLooks := .later }
def SpanConflictUptoCardSaid : Prop := Claim7.holds Tryz.pinned (.plain (OpenSpec.upto spanConflictSpec)) spanConflictUptoCard
end Rows
end Go.Proofs.YtfemldhlanoakaaGreatDoor
