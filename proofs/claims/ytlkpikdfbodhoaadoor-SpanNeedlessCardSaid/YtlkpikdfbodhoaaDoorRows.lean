/-
  NARROWER THAN 'FOR EVERY INPUT', by the rows' own cells (each row's printed sentence says how): SpanChains: laid · SpanBounds: laid · SpanNets: laid · SpanGrown: laid · SpanChecks: laid · SpanConflicts: laid · SpanNeedless: laid.
  DERIVED. THE GIVEN ROWS OF THIS SEAT. 7 by the template 'for every input the law returns true; each argument reads behind the call as it read before'; 0 by the template 'total and deterministic' (their statements: YtlkpikdfbodhoaaDoorTotals.lean).
  GIVEN WITH THE SEED: the statements are not yours to turn. If you find one false, say at which input.
  Laid BY PROGRAM, IN A SANDBOX (cutbox-rows.mjs): the forced cells as the released guide's own fill.sh prints them over the translation 3ba93437ef520e55… (all of the seat's roots in one cut). By AI agents, Wed Nov 11 2026. No macro, syntax, notation, axiom, sorry.
-/
import Derived.Test.YtlkpikdfbodhoaaDoorChecked
import GoSem.Claim
import GoSem.ClaimJoined
import GoSem.ClaimMapViews
import Derived.JoinedTies
import Derived.KernelRfl
namespace Go.Proofs.YtlkpikdfbodhoaaDoor
/- THE CELL 'sum', in the pinned program and in every row, IS THE sha256 OF THE DUMP (.gsa) THAT YtlkpikdfbodhoaaDoorProg.lean LOADS. Nothing in Lean hashes anything: it is a label: what it is worth is what the hold of that sum in a sandbox is worth. -/
noncomputable def Tryd.pinned : Pinned := { name := "ytlkpikdfbodhoaadoor", sum := "3ba93437ef520e55ab1e25db42d4ea263d855b7cf2e8c63182d49d9418120915", checked := Tryd.checked }
namespace Rows
def none {H : Type} : Left H := { results := [], args := [] }

/- WHAT THE LISTED PACKAGE-LEVEL VARIABLES READ AS WHEN THE CALL BEGINS. Each datum BY PROGRAM (the guide's laid-datum.mjs) off the statement by which the dump's own 'gosem.cut.vars' lays the variable. In a bare row this is a premise. The card (YtlkpikdfbodhoaaDoorCards.lean) ties it to the program's text. -/
def laid_math_bits_deBruijn64tab {H : Type} : DataW H := .agg [.lit (.int .u8 0), .lit (.int .u8 1), .lit (.int .u8 56), .lit (.int .u8 2), .lit (.int .u8 57), .lit (.int .u8 49), .lit (.int .u8 28), .lit (.int .u8 3), .lit (.int .u8 61), .lit (.int .u8 58), .lit (.int .u8 42), .lit (.int .u8 50), .lit (.int .u8 38), .lit (.int .u8 29), .lit (.int .u8 17), .lit (.int .u8 4), .lit (.int .u8 62), .lit (.int .u8 47), .lit (.int .u8 59), .lit (.int .u8 36), .lit (.int .u8 45), .lit (.int .u8 43), .lit (.int .u8 51), .lit (.int .u8 22), .lit (.int .u8 53), .lit (.int .u8 39), .lit (.int .u8 33), .lit (.int .u8 30), .lit (.int .u8 24), .lit (.int .u8 18), .lit (.int .u8 12), .lit (.int .u8 5), .lit (.int .u8 63), .lit (.int .u8 55), .lit (.int .u8 48), .lit (.int .u8 27), .lit (.int .u8 60), .lit (.int .u8 41), .lit (.int .u8 37), .lit (.int .u8 16), .lit (.int .u8 46), .lit (.int .u8 35), .lit (.int .u8 44), .lit (.int .u8 21), .lit (.int .u8 52), .lit (.int .u8 32), .lit (.int .u8 23), .lit (.int .u8 11), .lit (.int .u8 54), .lit (.int .u8 26), .lit (.int .u8 40), .lit (.int .u8 15), .lit (.int .u8 34), .lit (.int .u8 20), .lit (.int .u8 31), .lit (.int .u8 10), .lit (.int .u8 25), .lit (.int .u8 14), .lit (.int .u8 19), .lit (.int .u8 9), .lit (.int .u8 13), .lit (.int .u8 8), .lit (.int .u8 7), .lit (.int .u8 6)]

/-- 'gyttjalaw02.SpanChains': WHATEVER THE INPUT: true; the input reads as it did. -/
def spanChainsSpec : ChangeSpec := { name := "spanChains", fn := fun _ => fun
  | [d1, d2] => { results := [.lit (.bool true)], args := [d1, d2] }
  | _ => none }
def spanChainsRow : OpenClaim := { program := "ytlkpikdfbodhoaadoor", sum := "3ba93437ef520e55ab1e25db42d4ea263d855b7cf2e8c63182d49d9418120915", func := "gyttja/gyttjalaw02.SpanChains", spec := "spanChains", unfollowed := true, recurses := true, named := ["math/bits.deBruijn64tab"], apart := false, laid := [("math/bits.deBruijn64tab", laid_math_bits_deBruijn64tab)] }
def SpanChainsSaid : Prop := spanChainsRow.holds Tryd.pinned (OpenSpec.ofChange spanChainsSpec)

/-- ITS FALSE NEIGHBOUR: 'it returns false'. Refute it at one input. -/
def spanChainsWrong : ChangeSpec := { name := "spanChains", fn := fun _ => fun
  | [d1, d2] => { results := [.lit (.bool false)], args := [d1, d2] }
  | _ => none }
def SpanChainsWrongFalsely : Prop := spanChainsRow.holds Tryd.pinned (OpenSpec.ofChange spanChainsWrong)

/-- 'gyttjalaw02.SpanBounds': WHATEVER THE INPUT: true; the input reads as it did. -/
def spanBoundsSpec : ChangeSpec := { name := "spanBounds", fn := fun _ => fun
  | [d1, d2, d3] => { results := [.lit (.bool true)], args := [d1, d2, d3] }
  | _ => none }
def spanBoundsRow : OpenClaim := { program := "ytlkpikdfbodhoaadoor", sum := "3ba93437ef520e55ab1e25db42d4ea263d855b7cf2e8c63182d49d9418120915", func := "gyttja/gyttjalaw02.SpanBounds", spec := "spanBounds", unfollowed := true, recurses := true, named := ["math/bits.deBruijn64tab"], apart := false, laid := [("math/bits.deBruijn64tab", laid_math_bits_deBruijn64tab)] }
def SpanBoundsSaid : Prop := spanBoundsRow.holds Tryd.pinned (OpenSpec.ofChange spanBoundsSpec)

/-- ITS FALSE NEIGHBOUR: 'it returns false'. Refute it at one input. -/
def spanBoundsWrong : ChangeSpec := { name := "spanBounds", fn := fun _ => fun
  | [d1, d2, d3] => { results := [.lit (.bool false)], args := [d1, d2, d3] }
  | _ => none }
def SpanBoundsWrongFalsely : Prop := spanBoundsRow.holds Tryd.pinned (OpenSpec.ofChange spanBoundsWrong)

/-- 'gyttjalaw02.SpanNets': WHATEVER THE INPUT: true; the input reads as it did. -/
def spanNetsSpec : ChangeSpec := { name := "spanNets", fn := fun _ => fun
  | [d1, d2] => { results := [.lit (.bool true)], args := [d1, d2] }
  | _ => none }
def spanNetsRow : OpenClaim := { program := "ytlkpikdfbodhoaadoor", sum := "3ba93437ef520e55ab1e25db42d4ea263d855b7cf2e8c63182d49d9418120915", func := "gyttja/gyttjalaw02.SpanNets", spec := "spanNets", unfollowed := true, recurses := true, named := ["math/bits.deBruijn64tab"], apart := false, laid := [("math/bits.deBruijn64tab", laid_math_bits_deBruijn64tab)] }
def SpanNetsSaid : Prop := spanNetsRow.holds Tryd.pinned (OpenSpec.ofChange spanNetsSpec)

/-- ITS FALSE NEIGHBOUR: 'it returns false'. Refute it at one input. -/
def spanNetsWrong : ChangeSpec := { name := "spanNets", fn := fun _ => fun
  | [d1, d2] => { results := [.lit (.bool false)], args := [d1, d2] }
  | _ => none }
def SpanNetsWrongFalsely : Prop := spanNetsRow.holds Tryd.pinned (OpenSpec.ofChange spanNetsWrong)

/-- 'gyttjalaw02.SpanGrown': WHATEVER THE INPUT: true; the input reads as it did. -/
def spanGrownSpec : ChangeSpec := { name := "spanGrown", fn := fun _ => fun
  | [d1, d2] => { results := [.lit (.bool true)], args := [d1, d2] }
  | _ => none }
def spanGrownRow : OpenClaim := { program := "ytlkpikdfbodhoaadoor", sum := "3ba93437ef520e55ab1e25db42d4ea263d855b7cf2e8c63182d49d9418120915", func := "gyttja/gyttjalaw02.SpanGrown", spec := "spanGrown", unfollowed := true, recurses := true, named := ["math/bits.deBruijn64tab"], apart := false, laid := [("math/bits.deBruijn64tab", laid_math_bits_deBruijn64tab)] }
def SpanGrownSaid : Prop := spanGrownRow.holds Tryd.pinned (OpenSpec.ofChange spanGrownSpec)

/-- ITS FALSE NEIGHBOUR: 'it returns false'. Refute it at one input. -/
def spanGrownWrong : ChangeSpec := { name := "spanGrown", fn := fun _ => fun
  | [d1, d2] => { results := [.lit (.bool false)], args := [d1, d2] }
  | _ => none }
def SpanGrownWrongFalsely : Prop := spanGrownRow.holds Tryd.pinned (OpenSpec.ofChange spanGrownWrong)

/-- 'gyttjalaw02.SpanChecks': WHATEVER THE INPUT: true; the input reads as it did. -/
def spanChecksSpec : ChangeSpec := { name := "spanChecks", fn := fun _ => fun
  | [d1, d2] => { results := [.lit (.bool true)], args := [d1, d2] }
  | _ => none }
def spanChecksRow : OpenClaim := { program := "ytlkpikdfbodhoaadoor", sum := "3ba93437ef520e55ab1e25db42d4ea263d855b7cf2e8c63182d49d9418120915", func := "gyttja/gyttjalaw02.SpanChecks", spec := "spanChecks", unfollowed := true, recurses := true, named := ["math/bits.deBruijn64tab"], apart := false, laid := [("math/bits.deBruijn64tab", laid_math_bits_deBruijn64tab)] }
def SpanChecksSaid : Prop := spanChecksRow.holds Tryd.pinned (OpenSpec.ofChange spanChecksSpec)

/-- ITS FALSE NEIGHBOUR: 'it returns false'. Refute it at one input. -/
def spanChecksWrong : ChangeSpec := { name := "spanChecks", fn := fun _ => fun
  | [d1, d2] => { results := [.lit (.bool false)], args := [d1, d2] }
  | _ => none }
def SpanChecksWrongFalsely : Prop := spanChecksRow.holds Tryd.pinned (OpenSpec.ofChange spanChecksWrong)

/-- 'gyttjalaw02.SpanConflicts': WHATEVER THE INPUT: true; the input reads as it did. -/
def spanConflictsSpec : ChangeSpec := { name := "spanConflicts", fn := fun _ => fun
  | [d] => { results := [.lit (.bool true)], args := [d] }
  | _ => none }
def spanConflictsRow : OpenClaim := { program := "ytlkpikdfbodhoaadoor", sum := "3ba93437ef520e55ab1e25db42d4ea263d855b7cf2e8c63182d49d9418120915", func := "gyttja/gyttjalaw02.SpanConflicts", spec := "spanConflicts", unfollowed := true, recurses := true, named := ["math/bits.deBruijn64tab"], apart := false, laid := [("math/bits.deBruijn64tab", laid_math_bits_deBruijn64tab)] }
def SpanConflictsSaid : Prop := spanConflictsRow.holds Tryd.pinned (OpenSpec.ofChange spanConflictsSpec)

/-- ITS FALSE NEIGHBOUR: 'it returns false'. Refute it at one input. -/
def spanConflictsWrong : ChangeSpec := { name := "spanConflicts", fn := fun _ => fun
  | [d] => { results := [.lit (.bool false)], args := [d] }
  | _ => none }
def SpanConflictsWrongFalsely : Prop := spanConflictsRow.holds Tryd.pinned (OpenSpec.ofChange spanConflictsWrong)

/-- 'gyttjalaw02.SpanNeedless': WHATEVER THE INPUT: true; the input reads as it did. -/
def spanNeedlessSpec : ChangeSpec := { name := "spanNeedless", fn := fun _ => fun
  | [d] => { results := [.lit (.bool true)], args := [d] }
  | _ => none }
def spanNeedlessRow : OpenClaim := { program := "ytlkpikdfbodhoaadoor", sum := "3ba93437ef520e55ab1e25db42d4ea263d855b7cf2e8c63182d49d9418120915", func := "gyttja/gyttjalaw02.SpanNeedless", spec := "spanNeedless", unfollowed := true, recurses := true, named := ["math/bits.deBruijn64tab"], apart := false, laid := [("math/bits.deBruijn64tab", laid_math_bits_deBruijn64tab)] }
def SpanNeedlessSaid : Prop := spanNeedlessRow.holds Tryd.pinned (OpenSpec.ofChange spanNeedlessSpec)

/-- ITS FALSE NEIGHBOUR: 'it returns false'. Refute it at one input. -/
def spanNeedlessWrong : ChangeSpec := { name := "spanNeedless", fn := fun _ => fun
  | [d] => { results := [.lit (.bool false)], args := [d] }
  | _ => none }
def SpanNeedlessWrongFalsely : Prop := spanNeedlessRow.holds Tryd.pinned (OpenSpec.ofChange spanNeedlessWrong)

/- THE SECOND FORM. 'bulk': how many values and letters a reading holds, each counted each time it is reached (what is shared counts as often as it is met; a slice's spare places count too). A statement '..UptoSaid' is the law's where the arguments, and the package variables that the reading takes, are together of bulk at most 1048576: NARROWER than '..Said'. Prove '..Said' where nothing that the law and all that it calls make is longer than what came in: it says more and counts as full. Else prove '..UptoSaid'. A law counts once. -/
mutual
def uptoBulk {H : Type} : DataW H → Nat
  | .lit (.string bytes) => bytes.length + 1
  | .lit _ => 1
  | .nil => 1
  | .ptr d => uptoBulk d + 1
  | .slice elems spare => uptoBulkAll elems + uptoBulkAll spare + 1
  | .agg parts => uptoBulkAll parts + 1
  | .iface _ d => uptoBulk d + 1
  | .map entries => uptoBulkEntries entries + 1
  | .held _ => 1
def uptoBulkAll {H : Type} : List (DataW H) → Nat
  | [] => 0
  | d :: r => uptoBulk d + uptoBulkAll r
def uptoBulkEntries {H : Type} : List (Lit × DataW H) → Nat
  | [] => 0
  | x :: r => uptoBulkEntry x + uptoBulkEntries r
def uptoBulkEntry {H : Type} : Lit × DataW H → Nat
  | (.string bytes, d) => bytes.length + uptoBulk d + 1
  | (_, d) => uptoBulk d + 1
 end
def uptoSmall : (H : Type) → List (DataW H) → Bool := fun _ ds => decide (uptoBulkAll ds ≤ 1048576)
def OpenSpec.upto (s : _root_.Go.ChangeSpec) : _root_.Go.OpenSpec := { _root_.Go.OpenSpec.ofChange s with cond := some uptoSmall }

/-- 'gyttjalaw02.SpanChains', WHERE WHAT IT READS IS OF BULK AT MOST 1048576: true; the input reads as it did. -/
def spanChainsUptoRow : OpenClaim := { program := "ytlkpikdfbodhoaadoor", sum := "3ba93437ef520e55ab1e25db42d4ea263d855b7cf2e8c63182d49d9418120915", func := "gyttja/gyttjalaw02.SpanChains", spec := "spanChains", unfollowed := true, recurses := true, named := ["math/bits.deBruijn64tab"], apart := false, laid := [("math/bits.deBruijn64tab", laid_math_bits_deBruijn64tab)], narrowed := true }
def SpanChainsUptoSaid : Prop := spanChainsUptoRow.holds Tryd.pinned (OpenSpec.upto spanChainsSpec)

/-- 'gyttjalaw02.SpanBounds', WHERE WHAT IT READS IS OF BULK AT MOST 1048576: true; the input reads as it did. -/
def spanBoundsUptoRow : OpenClaim := { program := "ytlkpikdfbodhoaadoor", sum := "3ba93437ef520e55ab1e25db42d4ea263d855b7cf2e8c63182d49d9418120915", func := "gyttja/gyttjalaw02.SpanBounds", spec := "spanBounds", unfollowed := true, recurses := true, named := ["math/bits.deBruijn64tab"], apart := false, laid := [("math/bits.deBruijn64tab", laid_math_bits_deBruijn64tab)], narrowed := true }
def SpanBoundsUptoSaid : Prop := spanBoundsUptoRow.holds Tryd.pinned (OpenSpec.upto spanBoundsSpec)

/-- 'gyttjalaw02.SpanNets', WHERE WHAT IT READS IS OF BULK AT MOST 1048576: true; the input reads as it did. -/
def spanNetsUptoRow : OpenClaim := { program := "ytlkpikdfbodhoaadoor", sum := "3ba93437ef520e55ab1e25db42d4ea263d855b7cf2e8c63182d49d9418120915", func := "gyttja/gyttjalaw02.SpanNets", spec := "spanNets", unfollowed := true, recurses := true, named := ["math/bits.deBruijn64tab"], apart := false, laid := [("math/bits.deBruijn64tab", laid_math_bits_deBruijn64tab)], narrowed := true }
def SpanNetsUptoSaid : Prop := spanNetsUptoRow.holds Tryd.pinned (OpenSpec.upto spanNetsSpec)

/-- 'gyttjalaw02.SpanGrown', WHERE WHAT IT READS IS OF BULK AT MOST 1048576: true; the input reads as it did. -/
def spanGrownUptoRow : OpenClaim := { program := "ytlkpikdfbodhoaadoor", sum := "3ba93437ef520e55ab1e25db42d4ea263d855b7cf2e8c63182d49d9418120915", func := "gyttja/gyttjalaw02.SpanGrown", spec := "spanGrown", unfollowed := true, recurses := true, named := ["math/bits.deBruijn64tab"], apart := false, laid := [("math/bits.deBruijn64tab", laid_math_bits_deBruijn64tab)], narrowed := true }
def SpanGrownUptoSaid : Prop := spanGrownUptoRow.holds Tryd.pinned (OpenSpec.upto spanGrownSpec)

/-- 'gyttjalaw02.SpanChecks', WHERE WHAT IT READS IS OF BULK AT MOST 1048576: true; the input reads as it did. -/
def spanChecksUptoRow : OpenClaim := { program := "ytlkpikdfbodhoaadoor", sum := "3ba93437ef520e55ab1e25db42d4ea263d855b7cf2e8c63182d49d9418120915", func := "gyttja/gyttjalaw02.SpanChecks", spec := "spanChecks", unfollowed := true, recurses := true, named := ["math/bits.deBruijn64tab"], apart := false, laid := [("math/bits.deBruijn64tab", laid_math_bits_deBruijn64tab)], narrowed := true }
def SpanChecksUptoSaid : Prop := spanChecksUptoRow.holds Tryd.pinned (OpenSpec.upto spanChecksSpec)

/-- 'gyttjalaw02.SpanConflicts', WHERE WHAT IT READS IS OF BULK AT MOST 1048576: true; the input reads as it did. -/
def spanConflictsUptoRow : OpenClaim := { program := "ytlkpikdfbodhoaadoor", sum := "3ba93437ef520e55ab1e25db42d4ea263d855b7cf2e8c63182d49d9418120915", func := "gyttja/gyttjalaw02.SpanConflicts", spec := "spanConflicts", unfollowed := true, recurses := true, named := ["math/bits.deBruijn64tab"], apart := false, laid := [("math/bits.deBruijn64tab", laid_math_bits_deBruijn64tab)], narrowed := true }
def SpanConflictsUptoSaid : Prop := spanConflictsUptoRow.holds Tryd.pinned (OpenSpec.upto spanConflictsSpec)

/-- 'gyttjalaw02.SpanNeedless', WHERE WHAT IT READS IS OF BULK AT MOST 1048576: true; the input reads as it did. -/
def spanNeedlessUptoRow : OpenClaim := { program := "ytlkpikdfbodhoaadoor", sum := "3ba93437ef520e55ab1e25db42d4ea263d855b7cf2e8c63182d49d9418120915", func := "gyttja/gyttjalaw02.SpanNeedless", spec := "spanNeedless", unfollowed := true, recurses := true, named := ["math/bits.deBruijn64tab"], apart := false, laid := [("math/bits.deBruijn64tab", laid_math_bits_deBruijn64tab)], narrowed := true }
def SpanNeedlessUptoSaid : Prop := spanNeedlessUptoRow.holds Tryd.pinned (OpenSpec.upto spanNeedlessSpec)

end Rows
end Go.Proofs.YtlkpikdfbodhoaaDoor
