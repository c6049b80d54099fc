/-
  NARROWER THAN 'FOR EVERY INPUT', by the rows' own cells (each row's printed sentence says how): YearsSets: laid · YearsSpreads: laid · YearsAlgebra: laid · YearsTwice: laid.
  DERIVED. THE GIVEN ROWS OF THIS SEAT. 4 by the template 'for every input the law returns true; each argument reads behind the call as it read before'; 0 by the template 'total and deterministic' (their statements: YtlddgfkdicgbeaaGreatDoorTotals.lean).
  GIVEN WITH THE SEED: the statements are not yours to turn. If you find one false, say at which input.
  Laid BY PROGRAM, IN A SANDBOX (cutbox-rows.mjs): the forced cells as the released guide's own fill.sh prints them over the translation 4625e2078dc26d56… (all of the seat's roots in one cut). By AI agents, Wed Nov 11 2026. No macro, syntax, notation, axiom, sorry.
-/
import Derived.Test.YtlddgfkdicgbeaaGreatDoorChecked
import GoSem.Claim
import GoSem.ClaimJoined
import GoSem.ClaimMapViews
import Derived.JoinedTies
import Derived.KernelRfl
namespace Go.Proofs.YtlddgfkdicgbeaaGreatDoor
/- THE CELL 'sum', in the pinned program and in every row, IS THE sha256 OF THE DUMP (.gsa) THAT YtlddgfkdicgbeaaGreatDoorProg.lean LOADS. Nothing in Lean hashes anything: it is a label: what it is worth is what the hold of that sum in a sandbox is worth. -/
noncomputable def Tryz.pinned : Pinned := { name := "ytlddgfkdicgbeaagreatdoor", sum := "4625e2078dc26d56cb7b52d9f638c14df92bd05897c3c8a9079da5006c30a88b", checked := Tryz.checked }
namespace Rows
def none {H : Type} : Left H := { results := [], args := [] }

/- WHAT THE LISTED PACKAGE-LEVEL VARIABLES READ AS WHEN THE CALL BEGINS. Each datum BY PROGRAM (the guide's laid-datum.mjs) off the statement by which the dump's own 'gosem.cut.vars' lays the variable. In a bare row this is a premise. The card (YtlddgfkdicgbeaaGreatDoorCards.lean) ties it to the program's text. -/
def laid_math_bits_deBruijn64tab {H : Type} : DataW H := .agg [.lit (.int .u8 0), .lit (.int .u8 1), .lit (.int .u8 56), .lit (.int .u8 2), .lit (.int .u8 57), .lit (.int .u8 49), .lit (.int .u8 28), .lit (.int .u8 3), .lit (.int .u8 61), .lit (.int .u8 58), .lit (.int .u8 42), .lit (.int .u8 50), .lit (.int .u8 38), .lit (.int .u8 29), .lit (.int .u8 17), .lit (.int .u8 4), .lit (.int .u8 62), .lit (.int .u8 47), .lit (.int .u8 59), .lit (.int .u8 36), .lit (.int .u8 45), .lit (.int .u8 43), .lit (.int .u8 51), .lit (.int .u8 22), .lit (.int .u8 53), .lit (.int .u8 39), .lit (.int .u8 33), .lit (.int .u8 30), .lit (.int .u8 24), .lit (.int .u8 18), .lit (.int .u8 12), .lit (.int .u8 5), .lit (.int .u8 63), .lit (.int .u8 55), .lit (.int .u8 48), .lit (.int .u8 27), .lit (.int .u8 60), .lit (.int .u8 41), .lit (.int .u8 37), .lit (.int .u8 16), .lit (.int .u8 46), .lit (.int .u8 35), .lit (.int .u8 44), .lit (.int .u8 21), .lit (.int .u8 52), .lit (.int .u8 32), .lit (.int .u8 23), .lit (.int .u8 11), .lit (.int .u8 54), .lit (.int .u8 26), .lit (.int .u8 40), .lit (.int .u8 15), .lit (.int .u8 34), .lit (.int .u8 20), .lit (.int .u8 31), .lit (.int .u8 10), .lit (.int .u8 25), .lit (.int .u8 14), .lit (.int .u8 19), .lit (.int .u8 9), .lit (.int .u8 13), .lit (.int .u8 8), .lit (.int .u8 7), .lit (.int .u8 6)]
def laid_gyttja_cases_allYears {H : Type} : DataW H := .agg [.lit (.int .i64 (-1000000000)), .lit (.int .i64 1000000000)]

/-- 'gyttjalaw06.YearsSets': WHATEVER THE INPUT: true; the input reads as it did. -/
def yearsSetsSpec : ChangeSpec := { name := "yearsSets", fn := fun _ => fun
  | [d1, d2] => { results := [.lit (.bool true)], args := [d1, d2] }
  | _ => none }
def yearsSetsRow : OpenClaim := { program := "ytlddgfkdicgbeaagreatdoor", sum := "4625e2078dc26d56cb7b52d9f638c14df92bd05897c3c8a9079da5006c30a88b", func := "gyttja/gyttjalaw06.YearsSets", spec := "yearsSets", unfollowed := true, recurses := true, named := ["math/bits.deBruijn64tab", "gyttja/cases.allYears"], apart := false, laid := [("math/bits.deBruijn64tab", laid_math_bits_deBruijn64tab), ("gyttja/cases.allYears", laid_gyttja_cases_allYears)] }
def YearsSetsSaid : Prop := yearsSetsRow.holds Tryz.pinned (OpenSpec.ofChange yearsSetsSpec)

/-- ITS FALSE NEIGHBOUR: 'it returns false'. Refute it at one input. -/
def yearsSetsWrong : ChangeSpec := { name := "yearsSets", fn := fun _ => fun
  | [d1, d2] => { results := [.lit (.bool false)], args := [d1, d2] }
  | _ => none }
def YearsSetsWrongFalsely : Prop := yearsSetsRow.holds Tryz.pinned (OpenSpec.ofChange yearsSetsWrong)

/-- 'gyttjalaw06.YearsSpreads': WHATEVER THE INPUT: true; the input reads as it did. -/
def yearsSpreadsSpec : ChangeSpec := { name := "yearsSpreads", fn := fun _ => fun
  | [d1, d2, d3] => { results := [.lit (.bool true)], args := [d1, d2, d3] }
  | _ => none }
def yearsSpreadsRow : OpenClaim := { program := "ytlddgfkdicgbeaagreatdoor", sum := "4625e2078dc26d56cb7b52d9f638c14df92bd05897c3c8a9079da5006c30a88b", func := "gyttja/gyttjalaw06.YearsSpreads", spec := "yearsSpreads", unfollowed := true, recurses := true, named := ["math/bits.deBruijn64tab", "gyttja/cases.allYears"], apart := false, laid := [("math/bits.deBruijn64tab", laid_math_bits_deBruijn64tab), ("gyttja/cases.allYears", laid_gyttja_cases_allYears)] }
def YearsSpreadsSaid : Prop := yearsSpreadsRow.holds Tryz.pinned (OpenSpec.ofChange yearsSpreadsSpec)

/-- ITS FALSE NEIGHBOUR: 'it returns false'. Refute it at one input. -/
def yearsSpreadsWrong : ChangeSpec := { name := "yearsSpreads", fn := fun _ => fun
  | [d1, d2, d3] => { results := [.lit (.bool false)], args := [d1, d2, d3] }
  | _ => none }
def YearsSpreadsWrongFalsely : Prop := yearsSpreadsRow.holds Tryz.pinned (OpenSpec.ofChange yearsSpreadsWrong)

/-- 'gyttjalaw06.YearsAlgebra': WHATEVER THE INPUT: true; the input reads as it did. -/
def yearsAlgebraSpec : ChangeSpec := { name := "yearsAlgebra", fn := fun _ => fun
  | [d1, d2, d3] => { results := [.lit (.bool true)], args := [d1, d2, d3] }
  | _ => none }
def yearsAlgebraRow : OpenClaim := { program := "ytlddgfkdicgbeaagreatdoor", sum := "4625e2078dc26d56cb7b52d9f638c14df92bd05897c3c8a9079da5006c30a88b", func := "gyttja/gyttjalaw06.YearsAlgebra", spec := "yearsAlgebra", unfollowed := true, recurses := true, named := ["math/bits.deBruijn64tab", "gyttja/cases.allYears"], apart := false, laid := [("math/bits.deBruijn64tab", laid_math_bits_deBruijn64tab), ("gyttja/cases.allYears", laid_gyttja_cases_allYears)] }
def YearsAlgebraSaid : Prop := yearsAlgebraRow.holds Tryz.pinned (OpenSpec.ofChange yearsAlgebraSpec)

/-- ITS FALSE NEIGHBOUR: 'it returns false'. Refute it at one input. -/
def yearsAlgebraWrong : ChangeSpec := { name := "yearsAlgebra", fn := fun _ => fun
  | [d1, d2, d3] => { results := [.lit (.bool false)], args := [d1, d2, d3] }
  | _ => none }
def YearsAlgebraWrongFalsely : Prop := yearsAlgebraRow.holds Tryz.pinned (OpenSpec.ofChange yearsAlgebraWrong)

/-- 'gyttjalaw06.YearsTwice': WHATEVER THE INPUT: true; the input reads as it did. -/
def yearsTwiceSpec : ChangeSpec := { name := "yearsTwice", fn := fun _ => fun
  | [d1, d2, d3] => { results := [.lit (.bool true)], args := [d1, d2, d3] }
  | _ => none }
def yearsTwiceRow : OpenClaim := { program := "ytlddgfkdicgbeaagreatdoor", sum := "4625e2078dc26d56cb7b52d9f638c14df92bd05897c3c8a9079da5006c30a88b", func := "gyttja/gyttjalaw06.YearsTwice", spec := "yearsTwice", unfollowed := true, recurses := true, named := ["math/bits.deBruijn64tab", "gyttja/cases.allYears"], apart := false, laid := [("math/bits.deBruijn64tab", laid_math_bits_deBruijn64tab), ("gyttja/cases.allYears", laid_gyttja_cases_allYears)] }
def YearsTwiceSaid : Prop := yearsTwiceRow.holds Tryz.pinned (OpenSpec.ofChange yearsTwiceSpec)

/-- ITS FALSE NEIGHBOUR: 'it returns false'. Refute it at one input. -/
def yearsTwiceWrong : ChangeSpec := { name := "yearsTwice", fn := fun _ => fun
  | [d1, d2, d3] => { results := [.lit (.bool false)], args := [d1, d2, d3] }
  | _ => none }
def YearsTwiceWrongFalsely : Prop := yearsTwiceRow.holds Tryz.pinned (OpenSpec.ofChange yearsTwiceWrong)

/- THE SECOND FORM. 'bulk': how many values and letters a reading holds, each counted each time it is reached (what is shared counts as often as it is met; a slice's spare places count too). A statement '..UptoSaid' is the law's where the arguments, and the package variables that the reading takes, are together of bulk at most 1048576: NARROWER than '..Said'. Prove '..Said' where nothing that the law and all that it calls make is longer than what came in: it says more and counts as full. Else prove '..UptoSaid'. A law counts once. -/
mutual
def uptoBulk {H : Type} : DataW H → Nat
  | .lit (.string bytes) => bytes.length + 1
  | .lit _ => 1
  | .nil => 1
  | .ptr d => uptoBulk d + 1
  | .slice elems spare => uptoBulkAll elems + uptoBulkAll spare + 1
  | .agg parts => uptoBulkAll parts + 1
  | .iface _ d => uptoBulk d + 1
  | .map entries => uptoBulkEntries entries + 1
  | .held _ => 1
def uptoBulkAll {H : Type} : List (DataW H) → Nat
  | [] => 0
  | d :: r => uptoBulk d + uptoBulkAll r
def uptoBulkEntries {H : Type} : List (Lit × DataW H) → Nat
  | [] => 0
  | x :: r => uptoBulkEntry x + uptoBulkEntries r
def uptoBulkEntry {H : Type} : Lit × DataW H → Nat
  | (.string bytes, d) => bytes.length + uptoBulk d + 1
  | (_, d) => uptoBulk d + 1
 end
def uptoSmall : (H : Type) → List (DataW H) → Bool := fun _ ds => decide (uptoBulkAll ds ≤ 1048576)
def OpenSpec.upto (s : _root_.Go.ChangeSpec) : _root_.Go.OpenSpec := { _root_.Go.OpenSpec.ofChange s with cond := some uptoSmall }

/-- 'gyttjalaw06.YearsSets', WHERE WHAT IT READS IS OF BULK AT MOST 1048576: true; the input reads as it did. -/
def yearsSetsUptoRow : OpenClaim := { program := "ytlddgfkdicgbeaagreatdoor", sum := "4625e2078dc26d56cb7b52d9f638c14df92bd05897c3c8a9079da5006c30a88b", func := "gyttja/gyttjalaw06.YearsSets", spec := "yearsSets", unfollowed := true, recurses := true, named := ["math/bits.deBruijn64tab", "gyttja/cases.allYears"], apart := false, laid := [("math/bits.deBruijn64tab", laid_math_bits_deBruijn64tab), ("gyttja/cases.allYears", laid_gyttja_cases_allYears)], narrowed := true }
def YearsSetsUptoSaid : Prop := yearsSetsUptoRow.holds Tryz.pinned (OpenSpec.upto yearsSetsSpec)

/-- 'gyttjalaw06.YearsSpreads', WHERE WHAT IT READS IS OF BULK AT MOST 1048576: true; the input reads as it did. -/
def yearsSpreadsUptoRow : OpenClaim := { program := "ytlddgfkdicgbeaagreatdoor", sum := "4625e2078dc26d56cb7b52d9f638c14df92bd05897c3c8a9079da5006c30a88b", func := "gyttja/gyttjalaw06.YearsSpreads", spec := "yearsSpreads", unfollowed := true, recurses := true, named := ["math/bits.deBruijn64tab", "gyttja/cases.allYears"], apart := false, laid := [("math/bits.deBruijn64tab", laid_math_bits_deBruijn64tab), ("gyttja/cases.allYears", laid_gyttja_cases_allYears)], narrowed := true }
def YearsSpreadsUptoSaid : Prop := yearsSpreadsUptoRow.holds Tryz.pinned (OpenSpec.upto yearsSpreadsSpec)

/-- 'gyttjalaw06.YearsAlgebra', WHERE WHAT IT READS IS OF BULK AT MOST 1048576: true; the input reads as it did. -/
def yearsAlgebraUptoRow : OpenClaim := { program := "ytlddgfkdicgbeaagreatdoor", sum := "4625e2078dc26d56cb7b52d9f638c14df92bd05897c3c8a9079da5006c30a88b", func := "gyttja/gyttjalaw06.YearsAlgebra", spec := "yearsAlgebra", unfollowed := true, recurses := true, named := ["math/bits.deBruijn64tab", "gyttja/cases.allYears"], apart := false, laid := [("math/bits.deBruijn64tab", laid_math_bits_deBruijn64tab), ("gyttja/cases.allYears", laid_gyttja_cases_allYears)], narrowed := true }
def YearsAlgebraUptoSaid : Prop := yearsAlgebraUptoRow.holds Tryz.pinned (OpenSpec.upto yearsAlgebraSpec)

/-- 'gyttjalaw06.YearsTwice', WHERE WHAT IT READS IS OF BULK AT MOST 1048576: true; the input reads as it did. -/
def yearsTwiceUptoRow : OpenClaim := { program := "ytlddgfkdicgbeaagreatdoor", sum := "4625e2078dc26d56cb7b52d9f638c14df92bd05897c3c8a9079da5006c30a88b", func := "gyttja/gyttjalaw06.YearsTwice", spec := "yearsTwice", unfollowed := true, recurses := true, named := ["math/bits.deBruijn64tab", "gyttja/cases.allYears"], apart := false, laid := [("math/bits.deBruijn64tab", laid_math_bits_deBruijn64tab), ("gyttja/cases.allYears", laid_gyttja_cases_allYears)], narrowed := true }
def YearsTwiceUptoSaid : Prop := yearsTwiceUptoRow.holds Tryz.pinned (OpenSpec.upto yearsTwiceSpec)

end Rows
end Go.Proofs.YtlddgfkdicgbeaaGreatDoor
