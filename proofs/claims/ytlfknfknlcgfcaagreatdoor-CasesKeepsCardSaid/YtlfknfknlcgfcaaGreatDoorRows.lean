/-
  NARROWER THAN 'FOR EVERY INPUT', by the rows' own cells (each row's printed sentence says how): CasesAt: laid · CasesGrows: laid · CasesTrees: laid · CasesLeaves: laid · CasesValues: laid · CasesChooses: laid · CasesKeeps: laid · CasesExact: laid · CasesLeft: laid · CasesWithout: laid · CasesSplit: laid · CasesBlames: laid.
  DERIVED. THE GIVEN ROWS OF THIS SEAT. 12 by the template 'for every input the law returns true; each argument reads behind the call as it read before'; 0 by the template 'total and deterministic' (their statements: YtlfknfknlcgfcaaGreatDoorTotals.lean).
  GIVEN WITH THE SEED: the statements are not yours to turn. If you find one false, say at which input.
  Laid BY PROGRAM, IN A SANDBOX (cutbox-rows.mjs): the forced cells as the released guide's own fill.sh prints them over the translation 0890db9272e7b2bd… (all of the seat's roots in one cut). By AI agents, Wed Nov 11 2026. No macro, syntax, notation, axiom, sorry.
-/
import Derived.Test.YtlfknfknlcgfcaaGreatDoorChecked
import GoSem.Claim
import GoSem.ClaimJoined
import GoSem.ClaimMapViews
import Derived.JoinedTies
import Derived.KernelRfl
namespace Go.Proofs.YtlfknfknlcgfcaaGreatDoor
/- THE CELL 'sum', in the pinned program and in every row, IS THE sha256 OF THE DUMP (.gsa) THAT YtlfknfknlcgfcaaGreatDoorProg.lean LOADS. Nothing in Lean hashes anything: it is a label: what it is worth is what the hold of that sum in a sandbox is worth. -/
noncomputable def Tryz.pinned : Pinned := { name := "ytlfknfknlcgfcaagreatdoor", sum := "0890db9272e7b2bdc729f9c92691a295edd3355f52be1040946c078dedbc82d2", checked := Tryz.checked }
namespace Rows
def none {H : Type} : Left H := { results := [], args := [] }

/- WHAT THE LISTED PACKAGE-LEVEL VARIABLES READ AS WHEN THE CALL BEGINS. Each datum BY PROGRAM (the guide's laid-datum.mjs) off the statement by which the dump's own 'gosem.cut.vars' lays the variable. In a bare row this is a premise. The card (YtlfknfknlcgfcaaGreatDoorCards.lean) ties it to the program's text. -/
def laid_math_bits_deBruijn64tab {H : Type} : DataW H := .agg [.lit (.int .u8 0), .lit (.int .u8 1), .lit (.int .u8 56), .lit (.int .u8 2), .lit (.int .u8 57), .lit (.int .u8 49), .lit (.int .u8 28), .lit (.int .u8 3), .lit (.int .u8 61), .lit (.int .u8 58), .lit (.int .u8 42), .lit (.int .u8 50), .lit (.int .u8 38), .lit (.int .u8 29), .lit (.int .u8 17), .lit (.int .u8 4), .lit (.int .u8 62), .lit (.int .u8 47), .lit (.int .u8 59), .lit (.int .u8 36), .lit (.int .u8 45), .lit (.int .u8 43), .lit (.int .u8 51), .lit (.int .u8 22), .lit (.int .u8 53), .lit (.int .u8 39), .lit (.int .u8 33), .lit (.int .u8 30), .lit (.int .u8 24), .lit (.int .u8 18), .lit (.int .u8 12), .lit (.int .u8 5), .lit (.int .u8 63), .lit (.int .u8 55), .lit (.int .u8 48), .lit (.int .u8 27), .lit (.int .u8 60), .lit (.int .u8 41), .lit (.int .u8 37), .lit (.int .u8 16), .lit (.int .u8 46), .lit (.int .u8 35), .lit (.int .u8 44), .lit (.int .u8 21), .lit (.int .u8 52), .lit (.int .u8 32), .lit (.int .u8 23), .lit (.int .u8 11), .lit (.int .u8 54), .lit (.int .u8 26), .lit (.int .u8 40), .lit (.int .u8 15), .lit (.int .u8 34), .lit (.int .u8 20), .lit (.int .u8 31), .lit (.int .u8 10), .lit (.int .u8 25), .lit (.int .u8 14), .lit (.int .u8 19), .lit (.int .u8 9), .lit (.int .u8 13), .lit (.int .u8 8), .lit (.int .u8 7), .lit (.int .u8 6)]
def laid_gyttja_cases_allYears {H : Type} : DataW H := .agg [.lit (.int .i64 (-1000000000)), .lit (.int .i64 1000000000)]

/-- 'gyttjalaw05.CasesAt': WHATEVER THE INPUT: true; the input reads as it did. -/
def casesAtSpec : ChangeSpec := { name := "casesAt", fn := fun _ => fun
  | [d1, d2, d3] => { results := [.lit (.bool true)], args := [d1, d2, d3] }
  | _ => none }
def casesAtRow : OpenClaim := { program := "ytlfknfknlcgfcaagreatdoor", sum := "0890db9272e7b2bdc729f9c92691a295edd3355f52be1040946c078dedbc82d2", func := "gyttja/gyttjalaw05.CasesAt", spec := "casesAt", unfollowed := true, recurses := true, named := ["math/bits.deBruijn64tab", "gyttja/cases.allYears"], plainKeys := false, apart := false, laid := [("math/bits.deBruijn64tab", laid_math_bits_deBruijn64tab), ("gyttja/cases.allYears", laid_gyttja_cases_allYears)] }
def CasesAtSaid : Prop := casesAtRow.holds Tryz.pinned (OpenSpec.ofChange casesAtSpec)

/-- ITS FALSE NEIGHBOUR: 'it returns false'. Refute it at one input. -/
def casesAtWrong : ChangeSpec := { name := "casesAt", fn := fun _ => fun
  | [d1, d2, d3] => { results := [.lit (.bool false)], args := [d1, d2, d3] }
  | _ => none }
def CasesAtWrongFalsely : Prop := casesAtRow.holds Tryz.pinned (OpenSpec.ofChange casesAtWrong)

/-- 'gyttjalaw05.CasesGrows': WHATEVER THE INPUT: true; the input reads as it did. -/
def casesGrowsSpec : ChangeSpec := { name := "casesGrows", fn := fun _ => fun
  | [d] => { results := [.lit (.bool true)], args := [d] }
  | _ => none }
def casesGrowsRow : OpenClaim := { program := "ytlfknfknlcgfcaagreatdoor", sum := "0890db9272e7b2bdc729f9c92691a295edd3355f52be1040946c078dedbc82d2", func := "gyttja/gyttjalaw05.CasesGrows", spec := "casesGrows", unfollowed := true, recurses := true, named := ["math/bits.deBruijn64tab", "gyttja/cases.allYears"], plainKeys := false, apart := false, laid := [("math/bits.deBruijn64tab", laid_math_bits_deBruijn64tab), ("gyttja/cases.allYears", laid_gyttja_cases_allYears)] }
def CasesGrowsSaid : Prop := casesGrowsRow.holds Tryz.pinned (OpenSpec.ofChange casesGrowsSpec)

/-- ITS FALSE NEIGHBOUR: 'it returns false'. Refute it at one input. -/
def casesGrowsWrong : ChangeSpec := { name := "casesGrows", fn := fun _ => fun
  | [d] => { results := [.lit (.bool false)], args := [d] }
  | _ => none }
def CasesGrowsWrongFalsely : Prop := casesGrowsRow.holds Tryz.pinned (OpenSpec.ofChange casesGrowsWrong)

/-- 'gyttjalaw05.CasesTrees': WHATEVER THE INPUT: true; the input reads as it did. -/
def casesTreesSpec : ChangeSpec := { name := "casesTrees", fn := fun _ => fun
  | [d1, d2] => { results := [.lit (.bool true)], args := [d1, d2] }
  | _ => none }
def casesTreesRow : OpenClaim := { program := "ytlfknfknlcgfcaagreatdoor", sum := "0890db9272e7b2bdc729f9c92691a295edd3355f52be1040946c078dedbc82d2", func := "gyttja/gyttjalaw05.CasesTrees", spec := "casesTrees", unfollowed := true, recurses := true, named := ["math/bits.deBruijn64tab", "gyttja/cases.allYears"], plainKeys := false, apart := false, laid := [("math/bits.deBruijn64tab", laid_math_bits_deBruijn64tab), ("gyttja/cases.allYears", laid_gyttja_cases_allYears)] }
def CasesTreesSaid : Prop := casesTreesRow.holds Tryz.pinned (OpenSpec.ofChange casesTreesSpec)

/-- ITS FALSE NEIGHBOUR: 'it returns false'. Refute it at one input. -/
def casesTreesWrong : ChangeSpec := { name := "casesTrees", fn := fun _ => fun
  | [d1, d2] => { results := [.lit (.bool false)], args := [d1, d2] }
  | _ => none }
def CasesTreesWrongFalsely : Prop := casesTreesRow.holds Tryz.pinned (OpenSpec.ofChange casesTreesWrong)

/-- 'gyttjalaw05.CasesLeaves': WHATEVER THE INPUT: true; the input reads as it did. -/
def casesLeavesSpec : ChangeSpec := { name := "casesLeaves", fn := fun _ => fun
  | [d] => { results := [.lit (.bool true)], args := [d] }
  | _ => none }
def casesLeavesRow : OpenClaim := { program := "ytlfknfknlcgfcaagreatdoor", sum := "0890db9272e7b2bdc729f9c92691a295edd3355f52be1040946c078dedbc82d2", func := "gyttja/gyttjalaw05.CasesLeaves", spec := "casesLeaves", unfollowed := true, recurses := true, named := ["math/bits.deBruijn64tab", "gyttja/cases.allYears"], plainKeys := false, apart := false, laid := [("math/bits.deBruijn64tab", laid_math_bits_deBruijn64tab), ("gyttja/cases.allYears", laid_gyttja_cases_allYears)] }
def CasesLeavesSaid : Prop := casesLeavesRow.holds Tryz.pinned (OpenSpec.ofChange casesLeavesSpec)

/-- ITS FALSE NEIGHBOUR: 'it returns false'. Refute it at one input. -/
def casesLeavesWrong : ChangeSpec := { name := "casesLeaves", fn := fun _ => fun
  | [d] => { results := [.lit (.bool false)], args := [d] }
  | _ => none }
def CasesLeavesWrongFalsely : Prop := casesLeavesRow.holds Tryz.pinned (OpenSpec.ofChange casesLeavesWrong)

/-- 'gyttjalaw05.CasesValues': WHATEVER THE INPUT: true; the input reads as it did. -/
def casesValuesSpec : ChangeSpec := { name := "casesValues", fn := fun _ => fun
  | [d1, d2] => { results := [.lit (.bool true)], args := [d1, d2] }
  | _ => none }
def casesValuesRow : OpenClaim := { program := "ytlfknfknlcgfcaagreatdoor", sum := "0890db9272e7b2bdc729f9c92691a295edd3355f52be1040946c078dedbc82d2", func := "gyttja/gyttjalaw05.CasesValues", spec := "casesValues", unfollowed := true, recurses := true, named := ["math/bits.deBruijn64tab", "gyttja/cases.allYears"], plainKeys := false, apart := false, laid := [("math/bits.deBruijn64tab", laid_math_bits_deBruijn64tab), ("gyttja/cases.allYears", laid_gyttja_cases_allYears)] }
def CasesValuesSaid : Prop := casesValuesRow.holds Tryz.pinned (OpenSpec.ofChange casesValuesSpec)

/-- ITS FALSE NEIGHBOUR: 'it returns false'. Refute it at one input. -/
def casesValuesWrong : ChangeSpec := { name := "casesValues", fn := fun _ => fun
  | [d1, d2] => { results := [.lit (.bool false)], args := [d1, d2] }
  | _ => none }
def CasesValuesWrongFalsely : Prop := casesValuesRow.holds Tryz.pinned (OpenSpec.ofChange casesValuesWrong)

/-- 'gyttjalaw05.CasesChooses': WHATEVER THE INPUT: true; the input reads as it did. -/
def casesChoosesSpec : ChangeSpec := { name := "casesChooses", fn := fun _ => fun
  | [d1, d2] => { results := [.lit (.bool true)], args := [d1, d2] }
  | _ => none }
def casesChoosesRow : OpenClaim := { program := "ytlfknfknlcgfcaagreatdoor", sum := "0890db9272e7b2bdc729f9c92691a295edd3355f52be1040946c078dedbc82d2", func := "gyttja/gyttjalaw05.CasesChooses", spec := "casesChooses", unfollowed := true, recurses := true, named := ["math/bits.deBruijn64tab", "gyttja/cases.allYears"], plainKeys := false, apart := false, laid := [("math/bits.deBruijn64tab", laid_math_bits_deBruijn64tab), ("gyttja/cases.allYears", laid_gyttja_cases_allYears)] }
def CasesChoosesSaid : Prop := casesChoosesRow.holds Tryz.pinned (OpenSpec.ofChange casesChoosesSpec)

/-- ITS FALSE NEIGHBOUR: 'it returns false'. Refute it at one input. -/
def casesChoosesWrong : ChangeSpec := { name := "casesChooses", fn := fun _ => fun
  | [d1, d2] => { results := [.lit (.bool false)], args := [d1, d2] }
  | _ => none }
def CasesChoosesWrongFalsely : Prop := casesChoosesRow.holds Tryz.pinned (OpenSpec.ofChange casesChoosesWrong)

/-- 'gyttjalaw05.CasesKeeps': WHATEVER THE INPUT: true; the input reads as it did. -/
def casesKeepsSpec : ChangeSpec := { name := "casesKeeps", fn := fun _ => fun
  | [d1, d2] => { results := [.lit (.bool true)], args := [d1, d2] }
  | _ => none }
def casesKeepsRow : OpenClaim := { program := "ytlfknfknlcgfcaagreatdoor", sum := "0890db9272e7b2bdc729f9c92691a295edd3355f52be1040946c078dedbc82d2", func := "gyttja/gyttjalaw05.CasesKeeps", spec := "casesKeeps", unfollowed := true, recurses := true, named := ["math/bits.deBruijn64tab", "gyttja/cases.allYears"], plainKeys := false, apart := false, laid := [("math/bits.deBruijn64tab", laid_math_bits_deBruijn64tab), ("gyttja/cases.allYears", laid_gyttja_cases_allYears)] }
def CasesKeepsSaid : Prop := casesKeepsRow.holds Tryz.pinned (OpenSpec.ofChange casesKeepsSpec)

/-- ITS FALSE NEIGHBOUR: 'it returns false'. Refute it at one input. -/
def casesKeepsWrong : ChangeSpec := { name := "casesKeeps", fn := fun _ => fun
  | [d1, d2] => { results := [.lit (.bool false)], args := [d1, d2] }
  | _ => none }
def CasesKeepsWrongFalsely : Prop := casesKeepsRow.holds Tryz.pinned (OpenSpec.ofChange casesKeepsWrong)

/-- 'gyttjalaw05.CasesExact': WHATEVER THE INPUT: true; the input reads as it did. -/
def casesExactSpec : ChangeSpec := { name := "casesExact", fn := fun _ => fun
  | [d1, d2, d3] => { results := [.lit (.bool true)], args := [d1, d2, d3] }
  | _ => none }
def casesExactRow : OpenClaim := { program := "ytlfknfknlcgfcaagreatdoor", sum := "0890db9272e7b2bdc729f9c92691a295edd3355f52be1040946c078dedbc82d2", func := "gyttja/gyttjalaw05.CasesExact", spec := "casesExact", unfollowed := true, recurses := true, named := ["math/bits.deBruijn64tab", "gyttja/cases.allYears"], plainKeys := false, apart := false, laid := [("math/bits.deBruijn64tab", laid_math_bits_deBruijn64tab), ("gyttja/cases.allYears", laid_gyttja_cases_allYears)] }
def CasesExactSaid : Prop := casesExactRow.holds Tryz.pinned (OpenSpec.ofChange casesExactSpec)

/-- ITS FALSE NEIGHBOUR: 'it returns false'. Refute it at one input. -/
def casesExactWrong : ChangeSpec := { name := "casesExact", fn := fun _ => fun
  | [d1, d2, d3] => { results := [.lit (.bool false)], args := [d1, d2, d3] }
  | _ => none }
def CasesExactWrongFalsely : Prop := casesExactRow.holds Tryz.pinned (OpenSpec.ofChange casesExactWrong)

/-- 'gyttjalaw05.CasesLeft': WHATEVER THE INPUT: true; the input reads as it did. -/
def casesLeftSpec : ChangeSpec := { name := "casesLeft", fn := fun _ => fun
  | [d] => { results := [.lit (.bool true)], args := [d] }
  | _ => none }
def casesLeftRow : OpenClaim := { program := "ytlfknfknlcgfcaagreatdoor", sum := "0890db9272e7b2bdc729f9c92691a295edd3355f52be1040946c078dedbc82d2", func := "gyttja/gyttjalaw05.CasesLeft", spec := "casesLeft", unfollowed := true, recurses := true, named := ["math/bits.deBruijn64tab", "gyttja/cases.allYears"], plainKeys := false, apart := false, laid := [("math/bits.deBruijn64tab", laid_math_bits_deBruijn64tab), ("gyttja/cases.allYears", laid_gyttja_cases_allYears)] }
def CasesLeftSaid : Prop := casesLeftRow.holds Tryz.pinned (OpenSpec.ofChange casesLeftSpec)

/-- ITS FALSE NEIGHBOUR: 'it returns false'. Refute it at one input. -/
def casesLeftWrong : ChangeSpec := { name := "casesLeft", fn := fun _ => fun
  | [d] => { results := [.lit (.bool false)], args := [d] }
  | _ => none }
def CasesLeftWrongFalsely : Prop := casesLeftRow.holds Tryz.pinned (OpenSpec.ofChange casesLeftWrong)

/-- 'gyttjalaw05.CasesWithout': WHATEVER THE INPUT: true; the input reads as it did. -/
def casesWithoutSpec : ChangeSpec := { name := "casesWithout", fn := fun _ => fun
  | [d1, d2, d3] => { results := [.lit (.bool true)], args := [d1, d2, d3] }
  | _ => none }
def casesWithoutRow : OpenClaim := { program := "ytlfknfknlcgfcaagreatdoor", sum := "0890db9272e7b2bdc729f9c92691a295edd3355f52be1040946c078dedbc82d2", func := "gyttja/gyttjalaw05.CasesWithout", spec := "casesWithout", unfollowed := true, recurses := true, named := ["math/bits.deBruijn64tab", "gyttja/cases.allYears"], plainKeys := false, apart := false, laid := [("math/bits.deBruijn64tab", laid_math_bits_deBruijn64tab), ("gyttja/cases.allYears", laid_gyttja_cases_allYears)] }
def CasesWithoutSaid : Prop := casesWithoutRow.holds Tryz.pinned (OpenSpec.ofChange casesWithoutSpec)

/-- ITS FALSE NEIGHBOUR: 'it returns false'. Refute it at one input. -/
def casesWithoutWrong : ChangeSpec := { name := "casesWithout", fn := fun _ => fun
  | [d1, d2, d3] => { results := [.lit (.bool false)], args := [d1, d2, d3] }
  | _ => none }
def CasesWithoutWrongFalsely : Prop := casesWithoutRow.holds Tryz.pinned (OpenSpec.ofChange casesWithoutWrong)

/-- 'gyttjalaw05.CasesSplit': WHATEVER THE INPUT: true; the input reads as it did. -/
def casesSplitSpec : ChangeSpec := { name := "casesSplit", fn := fun _ => fun
  | [d1, d2, d3] => { results := [.lit (.bool true)], args := [d1, d2, d3] }
  | _ => none }
def casesSplitRow : OpenClaim := { program := "ytlfknfknlcgfcaagreatdoor", sum := "0890db9272e7b2bdc729f9c92691a295edd3355f52be1040946c078dedbc82d2", func := "gyttja/gyttjalaw05.CasesSplit", spec := "casesSplit", unfollowed := true, recurses := true, named := ["math/bits.deBruijn64tab", "gyttja/cases.allYears"], plainKeys := false, apart := false, laid := [("math/bits.deBruijn64tab", laid_math_bits_deBruijn64tab), ("gyttja/cases.allYears", laid_gyttja_cases_allYears)] }
def CasesSplitSaid : Prop := casesSplitRow.holds Tryz.pinned (OpenSpec.ofChange casesSplitSpec)

/-- ITS FALSE NEIGHBOUR: 'it returns false'. Refute it at one input. -/
def casesSplitWrong : ChangeSpec := { name := "casesSplit", fn := fun _ => fun
  | [d1, d2, d3] => { results := [.lit (.bool false)], args := [d1, d2, d3] }
  | _ => none }
def CasesSplitWrongFalsely : Prop := casesSplitRow.holds Tryz.pinned (OpenSpec.ofChange casesSplitWrong)

/-- 'gyttjalaw05.CasesBlames': WHATEVER THE INPUT: true; the input reads as it did. -/
def casesBlamesSpec : ChangeSpec := { name := "casesBlames", fn := fun _ => fun
  | [d1, d2] => { results := [.lit (.bool true)], args := [d1, d2] }
  | _ => none }
def casesBlamesRow : OpenClaim := { program := "ytlfknfknlcgfcaagreatdoor", sum := "0890db9272e7b2bdc729f9c92691a295edd3355f52be1040946c078dedbc82d2", func := "gyttja/gyttjalaw05.CasesBlames", spec := "casesBlames", unfollowed := true, recurses := true, named := ["math/bits.deBruijn64tab", "gyttja/cases.allYears"], plainKeys := false, apart := false, laid := [("math/bits.deBruijn64tab", laid_math_bits_deBruijn64tab), ("gyttja/cases.allYears", laid_gyttja_cases_allYears)] }
def CasesBlamesSaid : Prop := casesBlamesRow.holds Tryz.pinned (OpenSpec.ofChange casesBlamesSpec)

/-- ITS FALSE NEIGHBOUR: 'it returns false'. Refute it at one input. -/
def casesBlamesWrong : ChangeSpec := { name := "casesBlames", fn := fun _ => fun
  | [d1, d2] => { results := [.lit (.bool false)], args := [d1, d2] }
  | _ => none }
def CasesBlamesWrongFalsely : Prop := casesBlamesRow.holds Tryz.pinned (OpenSpec.ofChange casesBlamesWrong)

/- THE SECOND FORM. 'bulk': how many values and letters a reading holds, each counted each time it is reached (what is shared counts as often as it is met; a slice's spare places count too). A statement '..UptoSaid' is the law's where the arguments, and the package variables that the reading takes, are together of bulk at most 1048576: NARROWER than '..Said'. Prove '..Said' where nothing that the law and all that it calls make is longer than what came in: it says more and counts as full. Else prove '..UptoSaid'. A law counts once. -/
mutual
def uptoBulk {H : Type} : DataW H → Nat
  | .lit (.string bytes) => bytes.length + 1
  | .lit _ => 1
  | .nil => 1
  | .ptr d => uptoBulk d + 1
  | .slice elems spare => uptoBulkAll elems + uptoBulkAll spare + 1
  | .agg parts => uptoBulkAll parts + 1
  | .iface _ d => uptoBulk d + 1
  | .map entries => uptoBulkEntries entries + 1
  | .held _ => 1
def uptoBulkAll {H : Type} : List (DataW H) → Nat
  | [] => 0
  | d :: r => uptoBulk d + uptoBulkAll r
def uptoBulkEntries {H : Type} : List (Lit × DataW H) → Nat
  | [] => 0
  | x :: r => uptoBulkEntry x + uptoBulkEntries r
def uptoBulkEntry {H : Type} : Lit × DataW H → Nat
  | (.string bytes, d) => bytes.length + uptoBulk d + 1
  | (_, d) => uptoBulk d + 1
 end
def uptoSmall : (H : Type) → List (DataW H) → Bool := fun _ ds => decide (uptoBulkAll ds ≤ 1048576)
def OpenSpec.upto (s : _root_.Go.ChangeSpec) : _root_.Go.OpenSpec := { _root_.Go.OpenSpec.ofChange s with cond := some uptoSmall }

/-- 'gyttjalaw05.CasesAt', WHERE WHAT IT READS IS OF BULK AT MOST 1048576: true; the input reads as it did. -/
def casesAtUptoRow : OpenClaim := { program := "ytlfknfknlcgfcaagreatdoor", sum := "0890db9272e7b2bdc729f9c92691a295edd3355f52be1040946c078dedbc82d2", func := "gyttja/gyttjalaw05.CasesAt", spec := "casesAt", unfollowed := true, recurses := true, named := ["math/bits.deBruijn64tab", "gyttja/cases.allYears"], plainKeys := false, apart := false, laid := [("math/bits.deBruijn64tab", laid_math_bits_deBruijn64tab), ("gyttja/cases.allYears", laid_gyttja_cases_allYears)], narrowed := true }
def CasesAtUptoSaid : Prop := casesAtUptoRow.holds Tryz.pinned (OpenSpec.upto casesAtSpec)

/-- 'gyttjalaw05.CasesGrows', WHERE WHAT IT READS IS OF BULK AT MOST 1048576: true; the input reads as it did. -/
def casesGrowsUptoRow : OpenClaim := { program := "ytlfknfknlcgfcaagreatdoor", sum := "0890db9272e7b2bdc729f9c92691a295edd3355f52be1040946c078dedbc82d2", func := "gyttja/gyttjalaw05.CasesGrows", spec := "casesGrows", unfollowed := true, recurses := true, named := ["math/bits.deBruijn64tab", "gyttja/cases.allYears"], plainKeys := false, apart := false, laid := [("math/bits.deBruijn64tab", laid_math_bits_deBruijn64tab), ("gyttja/cases.allYears", laid_gyttja_cases_allYears)], narrowed := true }
def CasesGrowsUptoSaid : Prop := casesGrowsUptoRow.holds Tryz.pinned (OpenSpec.upto casesGrowsSpec)

/-- 'gyttjalaw05.CasesTrees', WHERE WHAT IT READS IS OF BULK AT MOST 1048576: true; the input reads as it did. -/
def casesTreesUptoRow : OpenClaim := { program := "ytlfknfknlcgfcaagreatdoor", sum := "0890db9272e7b2bdc729f9c92691a295edd3355f52be1040946c078dedbc82d2", func := "gyttja/gyttjalaw05.CasesTrees", spec := "casesTrees", unfollowed := true, recurses := true, named := ["math/bits.deBruijn64tab", "gyttja/cases.allYears"], plainKeys := false, apart := false, laid := [("math/bits.deBruijn64tab", laid_math_bits_deBruijn64tab), ("gyttja/cases.allYears", laid_gyttja_cases_allYears)], narrowed := true }
def CasesTreesUptoSaid : Prop := casesTreesUptoRow.holds Tryz.pinned (OpenSpec.upto casesTreesSpec)

/-- 'gyttjalaw05.CasesLeaves', WHERE WHAT IT READS IS OF BULK AT MOST 1048576: true; the input reads as it did. -/
def casesLeavesUptoRow : OpenClaim := { program := "ytlfknfknlcgfcaagreatdoor", sum := "0890db9272e7b2bdc729f9c92691a295edd3355f52be1040946c078dedbc82d2", func := "gyttja/gyttjalaw05.CasesLeaves", spec := "casesLeaves", unfollowed := true, recurses := true, named := ["math/bits.deBruijn64tab", "gyttja/cases.allYears"], plainKeys := false, apart := false, laid := [("math/bits.deBruijn64tab", laid_math_bits_deBruijn64tab), ("gyttja/cases.allYears", laid_gyttja_cases_allYears)], narrowed := true }
def CasesLeavesUptoSaid : Prop := casesLeavesUptoRow.holds Tryz.pinned (OpenSpec.upto casesLeavesSpec)

/-- 'gyttjalaw05.CasesValues', WHERE WHAT IT READS IS OF BULK AT MOST 1048576: true; the input reads as it did. -/
def casesValuesUptoRow : OpenClaim := { program := "ytlfknfknlcgfcaagreatdoor", sum := "0890db9272e7b2bdc729f9c92691a295edd3355f52be1040946c078dedbc82d2", func := "gyttja/gyttjalaw05.CasesValues", spec := "casesValues", unfollowed := true, recurses := true, named := ["math/bits.deBruijn64tab", "gyttja/cases.allYears"], plainKeys := false, apart := false, laid := [("math/bits.deBruijn64tab", laid_math_bits_deBruijn64tab), ("gyttja/cases.allYears", laid_gyttja_cases_allYears)], narrowed := true }
def CasesValuesUptoSaid : Prop := casesValuesUptoRow.holds Tryz.pinned (OpenSpec.upto casesValuesSpec)

/-- 'gyttjalaw05.CasesChooses', WHERE WHAT IT READS IS OF BULK AT MOST 1048576: true; the input reads as it did. -/
def casesChoosesUptoRow : OpenClaim := { program := "ytlfknfknlcgfcaagreatdoor", sum := "0890db9272e7b2bdc729f9c92691a295edd3355f52be1040946c078dedbc82d2", func := "gyttja/gyttjalaw05.CasesChooses", spec := "casesChooses", unfollowed := true, recurses := true, named := ["math/bits.deBruijn64tab", "gyttja/cases.allYears"], plainKeys := false, apart := false, laid := [("math/bits.deBruijn64tab", laid_math_bits_deBruijn64tab), ("gyttja/cases.allYears", laid_gyttja_cases_allYears)], narrowed := true }
def CasesChoosesUptoSaid : Prop := casesChoosesUptoRow.holds Tryz.pinned (OpenSpec.upto casesChoosesSpec)

/-- 'gyttjalaw05.CasesKeeps', WHERE WHAT IT READS IS OF BULK AT MOST 1048576: true; the input reads as it did. -/
def casesKeepsUptoRow : OpenClaim := { program := "ytlfknfknlcgfcaagreatdoor", sum := "0890db9272e7b2bdc729f9c92691a295edd3355f52be1040946c078dedbc82d2", func := "gyttja/gyttjalaw05.CasesKeeps", spec := "casesKeeps", unfollowed := true, recurses := true, named := ["math/bits.deBruijn64tab", "gyttja/cases.allYears"], plainKeys := false, apart := false, laid := [("math/bits.deBruijn64tab", laid_math_bits_deBruijn64tab), ("gyttja/cases.allYears", laid_gyttja_cases_allYears)], narrowed := true }
def CasesKeepsUptoSaid : Prop := casesKeepsUptoRow.holds Tryz.pinned (OpenSpec.upto casesKeepsSpec)

/-- 'gyttjalaw05.CasesExact', WHERE WHAT IT READS IS OF BULK AT MOST 1048576: true; the input reads as it did. -/
def casesExactUptoRow : OpenClaim := { program := "ytlfknfknlcgfcaagreatdoor", sum := "0890db9272e7b2bdc729f9c92691a295edd3355f52be1040946c078dedbc82d2", func := "gyttja/gyttjalaw05.CasesExact", spec := "casesExact", unfollowed := true, recurses := true, named := ["math/bits.deBruijn64tab", "gyttja/cases.allYears"], plainKeys := false, apart := false, laid := [("math/bits.deBruijn64tab", laid_math_bits_deBruijn64tab), ("gyttja/cases.allYears", laid_gyttja_cases_allYears)], narrowed := true }
def CasesExactUptoSaid : Prop := casesExactUptoRow.holds Tryz.pinned (OpenSpec.upto casesExactSpec)

/-- 'gyttjalaw05.CasesLeft', WHERE WHAT IT READS IS OF BULK AT MOST 1048576: true; the input reads as it did. -/
def casesLeftUptoRow : OpenClaim := { program := "ytlfknfknlcgfcaagreatdoor", sum := "0890db9272e7b2bdc729f9c92691a295edd3355f52be1040946c078dedbc82d2", func := "gyttja/gyttjalaw05.CasesLeft", spec := "casesLeft", unfollowed := true, recurses := true, named := ["math/bits.deBruijn64tab", "gyttja/cases.allYears"], plainKeys := false, apart := false, laid := [("math/bits.deBruijn64tab", laid_math_bits_deBruijn64tab), ("gyttja/cases.allYears", laid_gyttja_cases_allYears)], narrowed := true }
def CasesLeftUptoSaid : Prop := casesLeftUptoRow.holds Tryz.pinned (OpenSpec.upto casesLeftSpec)

/-- 'gyttjalaw05.CasesWithout', WHERE WHAT IT READS IS OF BULK AT MOST 1048576: true; the input reads as it did. -/
def casesWithoutUptoRow : OpenClaim := { program := "ytlfknfknlcgfcaagreatdoor", sum := "0890db9272e7b2bdc729f9c92691a295edd3355f52be1040946c078dedbc82d2", func := "gyttja/gyttjalaw05.CasesWithout", spec := "casesWithout", unfollowed := true, recurses := true, named := ["math/bits.deBruijn64tab", "gyttja/cases.allYears"], plainKeys := false, apart := false, laid := [("math/bits.deBruijn64tab", laid_math_bits_deBruijn64tab), ("gyttja/cases.allYears", laid_gyttja_cases_allYears)], narrowed := true }
def CasesWithoutUptoSaid : Prop := casesWithoutUptoRow.holds Tryz.pinned (OpenSpec.upto casesWithoutSpec)

/-- 'gyttjalaw05.CasesSplit', WHERE WHAT IT READS IS OF BULK AT MOST 1048576: true; the input reads as it did. -/
def casesSplitUptoRow : OpenClaim := { program := "ytlfknfknlcgfcaagreatdoor", sum := "0890db9272e7b2bdc729f9c92691a295edd3355f52be1040946c078dedbc82d2", func := "gyttja/gyttjalaw05.CasesSplit", spec := "casesSplit", unfollowed := true, recurses := true, named := ["math/bits.deBruijn64tab", "gyttja/cases.allYears"], plainKeys := false, apart := false, laid := [("math/bits.deBruijn64tab", laid_math_bits_deBruijn64tab), ("gyttja/cases.allYears", laid_gyttja_cases_allYears)], narrowed := true }
def CasesSplitUptoSaid : Prop := casesSplitUptoRow.holds Tryz.pinned (OpenSpec.upto casesSplitSpec)

/-- 'gyttjalaw05.CasesBlames', WHERE WHAT IT READS IS OF BULK AT MOST 1048576: true; the input reads as it did. -/
def casesBlamesUptoRow : OpenClaim := { program := "ytlfknfknlcgfcaagreatdoor", sum := "0890db9272e7b2bdc729f9c92691a295edd3355f52be1040946c078dedbc82d2", func := "gyttja/gyttjalaw05.CasesBlames", spec := "casesBlames", unfollowed := true, recurses := true, named := ["math/bits.deBruijn64tab", "gyttja/cases.allYears"], plainKeys := false, apart := false, laid := [("math/bits.deBruijn64tab", laid_math_bits_deBruijn64tab), ("gyttja/cases.allYears", laid_gyttja_cases_allYears)], narrowed := true }
def CasesBlamesUptoSaid : Prop := casesBlamesUptoRow.holds Tryz.pinned (OpenSpec.upto casesBlamesSpec)

end Rows
end Go.Proofs.YtlfknfknlcgfcaaGreatDoor
