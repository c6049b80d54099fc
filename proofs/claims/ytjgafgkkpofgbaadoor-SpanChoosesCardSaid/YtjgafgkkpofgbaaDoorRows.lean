/-
  NARROWER THAN 'FOR EVERY INPUT', by the rows' own cells (each row's printed sentence says how): SpanWithout: laid · SpanWalks: laid · SpanKeeps: laid · SpanCloses: laid · SpanNarrows: laid · SpanChooses: laid · SpanExact: laid · SpanExtended: laid · SpanChains: laid · SpanBounds: laid.
  DERIVED. THE GIVEN ROWS OF THIS SEAT. 10 by the template 'for every input the law returns true; each argument reads behind the call as it read before'; 0 by the template 'total and deterministic' (their statements: YtjgafgkkpofgbaaDoorTotals.lean).
  GIVEN WITH THE SEED: the statements are not yours to turn. If you find one false, say at which input.
  Laid BY PROGRAM, IN A SANDBOX (cutbox-rows.mjs): the forced cells as the released guide's own fill.sh prints them over the translation 3bc34d6dd8f53797… (all of the seat's roots in one cut). By AI agents, Wed Nov 11 2026. No macro, syntax, notation, axiom, sorry.
-/
import Derived.Test.YtjgafgkkpofgbaaDoorChecked
import GoSem.Claim
import GoSem.ClaimJoined
import GoSem.ClaimMapViews
import Derived.JoinedTies
import Derived.KernelRfl
namespace Go.Proofs.YtjgafgkkpofgbaaDoor
/- THE CELL 'sum', in the pinned program and in every row, IS THE sha256 OF THE DUMP (.gsa) THAT YtjgafgkkpofgbaaDoorProg.lean LOADS. Nothing in Lean hashes anything: it is a label: what it is worth is what the hold of that sum in a sandbox is worth. -/
noncomputable def Tryd.pinned : Pinned := { name := "ytjgafgkkpofgbaadoor", sum := "3bc34d6dd8f53797f6e7b9ea35de0c6e0e44269dbea2269ed6b10b8f86a3b1e8", checked := Tryd.checked }
namespace Rows
def none {H : Type} : Left H := { results := [], args := [] }

/- WHAT THE LISTED PACKAGE-LEVEL VARIABLES READ AS WHEN THE CALL BEGINS. Each datum BY PROGRAM (the guide's laid-datum.mjs) off the statement by which the dump's own 'gosem.cut.vars' lays the variable. In a bare row this is a premise. The card (YtjgafgkkpofgbaaDoorCards.lean) ties it to the program's text. -/
def laid_math_bits_deBruijn64tab {H : Type} : DataW H := .agg [.lit (.int .u8 0), .lit (.int .u8 1), .lit (.int .u8 56), .lit (.int .u8 2), .lit (.int .u8 57), .lit (.int .u8 49), .lit (.int .u8 28), .lit (.int .u8 3), .lit (.int .u8 61), .lit (.int .u8 58), .lit (.int .u8 42), .lit (.int .u8 50), .lit (.int .u8 38), .lit (.int .u8 29), .lit (.int .u8 17), .lit (.int .u8 4), .lit (.int .u8 62), .lit (.int .u8 47), .lit (.int .u8 59), .lit (.int .u8 36), .lit (.int .u8 45), .lit (.int .u8 43), .lit (.int .u8 51), .lit (.int .u8 22), .lit (.int .u8 53), .lit (.int .u8 39), .lit (.int .u8 33), .lit (.int .u8 30), .lit (.int .u8 24), .lit (.int .u8 18), .lit (.int .u8 12), .lit (.int .u8 5), .lit (.int .u8 63), .lit (.int .u8 55), .lit (.int .u8 48), .lit (.int .u8 27), .lit (.int .u8 60), .lit (.int .u8 41), .lit (.int .u8 37), .lit (.int .u8 16), .lit (.int .u8 46), .lit (.int .u8 35), .lit (.int .u8 44), .lit (.int .u8 21), .lit (.int .u8 52), .lit (.int .u8 32), .lit (.int .u8 23), .lit (.int .u8 11), .lit (.int .u8 54), .lit (.int .u8 26), .lit (.int .u8 40), .lit (.int .u8 15), .lit (.int .u8 34), .lit (.int .u8 20), .lit (.int .u8 31), .lit (.int .u8 10), .lit (.int .u8 25), .lit (.int .u8 14), .lit (.int .u8 19), .lit (.int .u8 9), .lit (.int .u8 13), .lit (.int .u8 8), .lit (.int .u8 7), .lit (.int .u8 6)]

/-- 'gyttjalaw02.SpanWithout': WHATEVER THE INPUT: true; the input reads as it did. -/
def spanWithoutSpec : ChangeSpec := { name := "spanWithout", fn := fun _ => fun
  | [d1, d2] => { results := [.lit (.bool true)], args := [d1, d2] }
  | _ => none }
def spanWithoutRow : OpenClaim := { program := "ytjgafgkkpofgbaadoor", sum := "3bc34d6dd8f53797f6e7b9ea35de0c6e0e44269dbea2269ed6b10b8f86a3b1e8", func := "gyttja/gyttjalaw02.SpanWithout", spec := "spanWithout", unfollowed := true, recurses := true, named := ["math/bits.deBruijn64tab"], apart := false, laid := [("math/bits.deBruijn64tab", laid_math_bits_deBruijn64tab)] }
def SpanWithoutSaid : Prop := spanWithoutRow.holds Tryd.pinned (OpenSpec.ofChange spanWithoutSpec)

/-- ITS FALSE NEIGHBOUR: 'it returns false'. Refute it at one input. -/
def spanWithoutWrong : ChangeSpec := { name := "spanWithout", fn := fun _ => fun
  | [d1, d2] => { results := [.lit (.bool false)], args := [d1, d2] }
  | _ => none }
def SpanWithoutWrongFalsely : Prop := spanWithoutRow.holds Tryd.pinned (OpenSpec.ofChange spanWithoutWrong)

/-- 'gyttjalaw02.SpanWalks': WHATEVER THE INPUT: true; the input reads as it did. -/
def spanWalksSpec : ChangeSpec := { name := "spanWalks", fn := fun _ => fun
  | [d1, d2] => { results := [.lit (.bool true)], args := [d1, d2] }
  | _ => none }
def spanWalksRow : OpenClaim := { program := "ytjgafgkkpofgbaadoor", sum := "3bc34d6dd8f53797f6e7b9ea35de0c6e0e44269dbea2269ed6b10b8f86a3b1e8", func := "gyttja/gyttjalaw02.SpanWalks", spec := "spanWalks", unfollowed := true, recurses := true, named := ["math/bits.deBruijn64tab"], apart := false, laid := [("math/bits.deBruijn64tab", laid_math_bits_deBruijn64tab)] }
def SpanWalksSaid : Prop := spanWalksRow.holds Tryd.pinned (OpenSpec.ofChange spanWalksSpec)

/-- ITS FALSE NEIGHBOUR: 'it returns false'. Refute it at one input. -/
def spanWalksWrong : ChangeSpec := { name := "spanWalks", fn := fun _ => fun
  | [d1, d2] => { results := [.lit (.bool false)], args := [d1, d2] }
  | _ => none }
def SpanWalksWrongFalsely : Prop := spanWalksRow.holds Tryd.pinned (OpenSpec.ofChange spanWalksWrong)

/-- 'gyttjalaw02.SpanKeeps': WHATEVER THE INPUT: true; the input reads as it did. -/
def spanKeepsSpec : ChangeSpec := { name := "spanKeeps", fn := fun _ => fun
  | [d1, d2] => { results := [.lit (.bool true)], args := [d1, d2] }
  | _ => none }
def spanKeepsRow : OpenClaim := { program := "ytjgafgkkpofgbaadoor", sum := "3bc34d6dd8f53797f6e7b9ea35de0c6e0e44269dbea2269ed6b10b8f86a3b1e8", func := "gyttja/gyttjalaw02.SpanKeeps", spec := "spanKeeps", unfollowed := true, recurses := true, named := ["math/bits.deBruijn64tab"], apart := false, laid := [("math/bits.deBruijn64tab", laid_math_bits_deBruijn64tab)] }
def SpanKeepsSaid : Prop := spanKeepsRow.holds Tryd.pinned (OpenSpec.ofChange spanKeepsSpec)

/-- ITS FALSE NEIGHBOUR: 'it returns false'. Refute it at one input. -/
def spanKeepsWrong : ChangeSpec := { name := "spanKeeps", fn := fun _ => fun
  | [d1, d2] => { results := [.lit (.bool false)], args := [d1, d2] }
  | _ => none }
def SpanKeepsWrongFalsely : Prop := spanKeepsRow.holds Tryd.pinned (OpenSpec.ofChange spanKeepsWrong)

/-- 'gyttjalaw02.SpanCloses': WHATEVER THE INPUT: true; the input reads as it did. -/
def spanClosesSpec : ChangeSpec := { name := "spanCloses", fn := fun _ => fun
  | [d] => { results := [.lit (.bool true)], args := [d] }
  | _ => none }
def spanClosesRow : OpenClaim := { program := "ytjgafgkkpofgbaadoor", sum := "3bc34d6dd8f53797f6e7b9ea35de0c6e0e44269dbea2269ed6b10b8f86a3b1e8", func := "gyttja/gyttjalaw02.SpanCloses", spec := "spanCloses", unfollowed := true, recurses := true, named := ["math/bits.deBruijn64tab"], apart := false, laid := [("math/bits.deBruijn64tab", laid_math_bits_deBruijn64tab)] }
def SpanClosesSaid : Prop := spanClosesRow.holds Tryd.pinned (OpenSpec.ofChange spanClosesSpec)

/-- ITS FALSE NEIGHBOUR: 'it returns false'. Refute it at one input. -/
def spanClosesWrong : ChangeSpec := { name := "spanCloses", fn := fun _ => fun
  | [d] => { results := [.lit (.bool false)], args := [d] }
  | _ => none }
def SpanClosesWrongFalsely : Prop := spanClosesRow.holds Tryd.pinned (OpenSpec.ofChange spanClosesWrong)

/-- 'gyttjalaw02.SpanNarrows': WHATEVER THE INPUT: true; the input reads as it did. -/
def spanNarrowsSpec : ChangeSpec := { name := "spanNarrows", fn := fun _ => fun
  | [d1, d2, d3] => { results := [.lit (.bool true)], args := [d1, d2, d3] }
  | _ => none }
def spanNarrowsRow : OpenClaim := { program := "ytjgafgkkpofgbaadoor", sum := "3bc34d6dd8f53797f6e7b9ea35de0c6e0e44269dbea2269ed6b10b8f86a3b1e8", func := "gyttja/gyttjalaw02.SpanNarrows", spec := "spanNarrows", unfollowed := true, recurses := true, named := ["math/bits.deBruijn64tab"], apart := false, laid := [("math/bits.deBruijn64tab", laid_math_bits_deBruijn64tab)] }
def SpanNarrowsSaid : Prop := spanNarrowsRow.holds Tryd.pinned (OpenSpec.ofChange spanNarrowsSpec)

/-- ITS FALSE NEIGHBOUR: 'it returns false'. Refute it at one input. -/
def spanNarrowsWrong : ChangeSpec := { name := "spanNarrows", fn := fun _ => fun
  | [d1, d2, d3] => { results := [.lit (.bool false)], args := [d1, d2, d3] }
  | _ => none }
def SpanNarrowsWrongFalsely : Prop := spanNarrowsRow.holds Tryd.pinned (OpenSpec.ofChange spanNarrowsWrong)

/-- 'gyttjalaw02.SpanChooses': WHATEVER THE INPUT: true; the input reads as it did. -/
def spanChoosesSpec : ChangeSpec := { name := "spanChooses", fn := fun _ => fun
  | [d1, d2] => { results := [.lit (.bool true)], args := [d1, d2] }
  | _ => none }
def spanChoosesRow : OpenClaim := { program := "ytjgafgkkpofgbaadoor", sum := "3bc34d6dd8f53797f6e7b9ea35de0c6e0e44269dbea2269ed6b10b8f86a3b1e8", func := "gyttja/gyttjalaw02.SpanChooses", spec := "spanChooses", unfollowed := true, recurses := true, named := ["math/bits.deBruijn64tab"], apart := false, laid := [("math/bits.deBruijn64tab", laid_math_bits_deBruijn64tab)] }
def SpanChoosesSaid : Prop := spanChoosesRow.holds Tryd.pinned (OpenSpec.ofChange spanChoosesSpec)

/-- ITS FALSE NEIGHBOUR: 'it returns false'. Refute it at one input. -/
def spanChoosesWrong : ChangeSpec := { name := "spanChooses", fn := fun _ => fun
  | [d1, d2] => { results := [.lit (.bool false)], args := [d1, d2] }
  | _ => none }
def SpanChoosesWrongFalsely : Prop := spanChoosesRow.holds Tryd.pinned (OpenSpec.ofChange spanChoosesWrong)

/-- 'gyttjalaw02.SpanExact': WHATEVER THE INPUT: true; the input reads as it did. -/
def spanExactSpec : ChangeSpec := { name := "spanExact", fn := fun _ => fun
  | [d1, d2, d3] => { results := [.lit (.bool true)], args := [d1, d2, d3] }
  | _ => none }
def spanExactRow : OpenClaim := { program := "ytjgafgkkpofgbaadoor", sum := "3bc34d6dd8f53797f6e7b9ea35de0c6e0e44269dbea2269ed6b10b8f86a3b1e8", func := "gyttja/gyttjalaw02.SpanExact", spec := "spanExact", unfollowed := true, recurses := true, named := ["math/bits.deBruijn64tab"], apart := false, laid := [("math/bits.deBruijn64tab", laid_math_bits_deBruijn64tab)] }
def SpanExactSaid : Prop := spanExactRow.holds Tryd.pinned (OpenSpec.ofChange spanExactSpec)

/-- ITS FALSE NEIGHBOUR: 'it returns false'. Refute it at one input. -/
def spanExactWrong : ChangeSpec := { name := "spanExact", fn := fun _ => fun
  | [d1, d2, d3] => { results := [.lit (.bool false)], args := [d1, d2, d3] }
  | _ => none }
def SpanExactWrongFalsely : Prop := spanExactRow.holds Tryd.pinned (OpenSpec.ofChange spanExactWrong)

/-- 'gyttjalaw02.SpanExtended': WHATEVER THE INPUT: true; the input reads as it did. -/
def spanExtendedSpec : ChangeSpec := { name := "spanExtended", fn := fun _ => fun
  | [d1, d2, d3] => { results := [.lit (.bool true)], args := [d1, d2, d3] }
  | _ => none }
def spanExtendedRow : OpenClaim := { program := "ytjgafgkkpofgbaadoor", sum := "3bc34d6dd8f53797f6e7b9ea35de0c6e0e44269dbea2269ed6b10b8f86a3b1e8", func := "gyttja/gyttjalaw02.SpanExtended", spec := "spanExtended", unfollowed := true, recurses := true, named := ["math/bits.deBruijn64tab"], apart := false, laid := [("math/bits.deBruijn64tab", laid_math_bits_deBruijn64tab)] }
def SpanExtendedSaid : Prop := spanExtendedRow.holds Tryd.pinned (OpenSpec.ofChange spanExtendedSpec)

/-- ITS FALSE NEIGHBOUR: 'it returns false'. Refute it at one input. -/
def spanExtendedWrong : ChangeSpec := { name := "spanExtended", fn := fun _ => fun
  | [d1, d2, d3] => { results := [.lit (.bool false)], args := [d1, d2, d3] }
  | _ => none }
def SpanExtendedWrongFalsely : Prop := spanExtendedRow.holds Tryd.pinned (OpenSpec.ofChange spanExtendedWrong)

/-- 'gyttjalaw02.SpanChains': WHATEVER THE INPUT: true; the input reads as it did. -/
def spanChainsSpec : ChangeSpec := { name := "spanChains", fn := fun _ => fun
  | [d1, d2] => { results := [.lit (.bool true)], args := [d1, d2] }
  | _ => none }
def spanChainsRow : OpenClaim := { program := "ytjgafgkkpofgbaadoor", sum := "3bc34d6dd8f53797f6e7b9ea35de0c6e0e44269dbea2269ed6b10b8f86a3b1e8", func := "gyttja/gyttjalaw02.SpanChains", spec := "spanChains", unfollowed := true, recurses := true, named := ["math/bits.deBruijn64tab"], apart := false, laid := [("math/bits.deBruijn64tab", laid_math_bits_deBruijn64tab)] }
def SpanChainsSaid : Prop := spanChainsRow.holds Tryd.pinned (OpenSpec.ofChange spanChainsSpec)

/-- ITS FALSE NEIGHBOUR: 'it returns false'. Refute it at one input. -/
def spanChainsWrong : ChangeSpec := { name := "spanChains", fn := fun _ => fun
  | [d1, d2] => { results := [.lit (.bool false)], args := [d1, d2] }
  | _ => none }
def SpanChainsWrongFalsely : Prop := spanChainsRow.holds Tryd.pinned (OpenSpec.ofChange spanChainsWrong)

/-- 'gyttjalaw02.SpanBounds': WHATEVER THE INPUT: true; the input reads as it did. -/
def spanBoundsSpec : ChangeSpec := { name := "spanBounds", fn := fun _ => fun
  | [d1, d2, d3] => { results := [.lit (.bool true)], args := [d1, d2, d3] }
  | _ => none }
def spanBoundsRow : OpenClaim := { program := "ytjgafgkkpofgbaadoor", sum := "3bc34d6dd8f53797f6e7b9ea35de0c6e0e44269dbea2269ed6b10b8f86a3b1e8", func := "gyttja/gyttjalaw02.SpanBounds", spec := "spanBounds", unfollowed := true, recurses := true, named := ["math/bits.deBruijn64tab"], apart := false, laid := [("math/bits.deBruijn64tab", laid_math_bits_deBruijn64tab)] }
def SpanBoundsSaid : Prop := spanBoundsRow.holds Tryd.pinned (OpenSpec.ofChange spanBoundsSpec)

/-- ITS FALSE NEIGHBOUR: 'it returns false'. Refute it at one input. -/
def spanBoundsWrong : ChangeSpec := { name := "spanBounds", fn := fun _ => fun
  | [d1, d2, d3] => { results := [.lit (.bool false)], args := [d1, d2, d3] }
  | _ => none }
def SpanBoundsWrongFalsely : Prop := spanBoundsRow.holds Tryd.pinned (OpenSpec.ofChange spanBoundsWrong)

/- THE SECOND FORM. 'bulk': how many values and letters a reading holds, each counted each time it is reached (what is shared counts as often as it is met; a slice's spare places count too). A statement '..UptoSaid' is the law's where the arguments, and the package variables that the reading takes, are together of bulk at most 1048576: NARROWER than '..Said'. Prove '..Said' where nothing that the law and all that it calls make is longer than what came in: it says more and counts as full. Else prove '..UptoSaid'. A law counts once. -/
mutual
def uptoBulk {H : Type} : DataW H → Nat
  | .lit (.string bytes) => bytes.length + 1
  | .lit _ => 1
  | .nil => 1
  | .ptr d => uptoBulk d + 1
  | .slice elems spare => uptoBulkAll elems + uptoBulkAll spare + 1
  | .agg parts => uptoBulkAll parts + 1
  | .iface _ d => uptoBulk d + 1
  | .map entries => uptoBulkEntries entries + 1
  | .held _ => 1
def uptoBulkAll {H : Type} : List (DataW H) → Nat
  | [] => 0
  | d :: r => uptoBulk d + uptoBulkAll r
def uptoBulkEntries {H : Type} : List (Lit × DataW H) → Nat
  | [] => 0
  | x :: r => uptoBulkEntry x + uptoBulkEntries r
def uptoBulkEntry {H : Type} : Lit × DataW H → Nat
  | (.string bytes, d) => bytes.length + uptoBulk d + 1
  | (_, d) => uptoBulk d + 1
 end
def uptoSmall : (H : Type) → List (DataW H) → Bool := fun _ ds => decide (uptoBulkAll ds ≤ 1048576)
def OpenSpec.upto (s : _root_.Go.ChangeSpec) : _root_.Go.OpenSpec := { _root_.Go.OpenSpec.ofChange s with cond := some uptoSmall }

/-- 'gyttjalaw02.SpanWithout', WHERE WHAT IT READS IS OF BULK AT MOST 1048576: true; the input reads as it did. -/
def spanWithoutUptoRow : OpenClaim := { program := "ytjgafgkkpofgbaadoor", sum := "3bc34d6dd8f53797f6e7b9ea35de0c6e0e44269dbea2269ed6b10b8f86a3b1e8", func := "gyttja/gyttjalaw02.SpanWithout", spec := "spanWithout", unfollowed := true, recurses := true, named := ["math/bits.deBruijn64tab"], apart := false, laid := [("math/bits.deBruijn64tab", laid_math_bits_deBruijn64tab)], narrowed := true }
def SpanWithoutUptoSaid : Prop := spanWithoutUptoRow.holds Tryd.pinned (OpenSpec.upto spanWithoutSpec)

/-- 'gyttjalaw02.SpanWalks', WHERE WHAT IT READS IS OF BULK AT MOST 1048576: true; the input reads as it did. -/
def spanWalksUptoRow : OpenClaim := { program := "ytjgafgkkpofgbaadoor", sum := "3bc34d6dd8f53797f6e7b9ea35de0c6e0e44269dbea2269ed6b10b8f86a3b1e8", func := "gyttja/gyttjalaw02.SpanWalks", spec := "spanWalks", unfollowed := true, recurses := true, named := ["math/bits.deBruijn64tab"], apart := false, laid := [("math/bits.deBruijn64tab", laid_math_bits_deBruijn64tab)], narrowed := true }
def SpanWalksUptoSaid : Prop := spanWalksUptoRow.holds Tryd.pinned (OpenSpec.upto spanWalksSpec)

/-- 'gyttjalaw02.SpanKeeps', WHERE WHAT IT READS IS OF BULK AT MOST 1048576: true; the input reads as it did. -/
def spanKeepsUptoRow : OpenClaim := { program := "ytjgafgkkpofgbaadoor", sum := "3bc34d6dd8f53797f6e7b9ea35de0c6e0e44269dbea2269ed6b10b8f86a3b1e8", func := "gyttja/gyttjalaw02.SpanKeeps", spec := "spanKeeps", unfollowed := true, recurses := true, named := ["math/bits.deBruijn64tab"], apart := false, laid := [("math/bits.deBruijn64tab", laid_math_bits_deBruijn64tab)], narrowed := true }
def SpanKeepsUptoSaid : Prop := spanKeepsUptoRow.holds Tryd.pinned (OpenSpec.upto spanKeepsSpec)

/-- 'gyttjalaw02.SpanCloses', WHERE WHAT IT READS IS OF BULK AT MOST 1048576: true; the input reads as it did. -/
def spanClosesUptoRow : OpenClaim := { program := "ytjgafgkkpofgbaadoor", sum := "3bc34d6dd8f53797f6e7b9ea35de0c6e0e44269dbea2269ed6b10b8f86a3b1e8", func := "gyttja/gyttjalaw02.SpanCloses", spec := "spanCloses", unfollowed := true, recurses := true, named := ["math/bits.deBruijn64tab"], apart := false, laid := [("math/bits.deBruijn64tab", laid_math_bits_deBruijn64tab)], narrowed := true }
def SpanClosesUptoSaid : Prop := spanClosesUptoRow.holds Tryd.pinned (OpenSpec.upto spanClosesSpec)

/-- 'gyttjalaw02.SpanNarrows', WHERE WHAT IT READS IS OF BULK AT MOST 1048576: true; the input reads as it did. -/
def spanNarrowsUptoRow : OpenClaim := { program := "ytjgafgkkpofgbaadoor", sum := "3bc34d6dd8f53797f6e7b9ea35de0c6e0e44269dbea2269ed6b10b8f86a3b1e8", func := "gyttja/gyttjalaw02.SpanNarrows", spec := "spanNarrows", unfollowed := true, recurses := true, named := ["math/bits.deBruijn64tab"], apart := false, laid := [("math/bits.deBruijn64tab", laid_math_bits_deBruijn64tab)], narrowed := true }
def SpanNarrowsUptoSaid : Prop := spanNarrowsUptoRow.holds Tryd.pinned (OpenSpec.upto spanNarrowsSpec)

/-- 'gyttjalaw02.SpanChooses', WHERE WHAT IT READS IS OF BULK AT MOST 1048576: true; the input reads as it did. -/
def spanChoosesUptoRow : OpenClaim := { program := "ytjgafgkkpofgbaadoor", sum := "3bc34d6dd8f53797f6e7b9ea35de0c6e0e44269dbea2269ed6b10b8f86a3b1e8", func := "gyttja/gyttjalaw02.SpanChooses", spec := "spanChooses", unfollowed := true, recurses := true, named := ["math/bits.deBruijn64tab"], apart := false, laid := [("math/bits.deBruijn64tab", laid_math_bits_deBruijn64tab)], narrowed := true }
def SpanChoosesUptoSaid : Prop := spanChoosesUptoRow.holds Tryd.pinned (OpenSpec.upto spanChoosesSpec)

/-- 'gyttjalaw02.SpanExact', WHERE WHAT IT READS IS OF BULK AT MOST 1048576: true; the input reads as it did. -/
def spanExactUptoRow : OpenClaim := { program := "ytjgafgkkpofgbaadoor", sum := "3bc34d6dd8f53797f6e7b9ea35de0c6e0e44269dbea2269ed6b10b8f86a3b1e8", func := "gyttja/gyttjalaw02.SpanExact", spec := "spanExact", unfollowed := true, recurses := true, named := ["math/bits.deBruijn64tab"], apart := false, laid := [("math/bits.deBruijn64tab", laid_math_bits_deBruijn64tab)], narrowed := true }
def SpanExactUptoSaid : Prop := spanExactUptoRow.holds Tryd.pinned (OpenSpec.upto spanExactSpec)

/-- 'gyttjalaw02.SpanExtended', WHERE WHAT IT READS IS OF BULK AT MOST 1048576: true; the input reads as it did. -/
def spanExtendedUptoRow : OpenClaim := { program := "ytjgafgkkpofgbaadoor", sum := "3bc34d6dd8f53797f6e7b9ea35de0c6e0e44269dbea2269ed6b10b8f86a3b1e8", func := "gyttja/gyttjalaw02.SpanExtended", spec := "spanExtended", unfollowed := true, recurses := true, named := ["math/bits.deBruijn64tab"], apart := false, laid := [("math/bits.deBruijn64tab", laid_math_bits_deBruijn64tab)], narrowed := true }
def SpanExtendedUptoSaid : Prop := spanExtendedUptoRow.holds Tryd.pinned (OpenSpec.upto spanExtendedSpec)

/-- 'gyttjalaw02.SpanChains', WHERE WHAT IT READS IS OF BULK AT MOST 1048576: true; the input reads as it did. -/
def spanChainsUptoRow : OpenClaim := { program := "ytjgafgkkpofgbaadoor", sum := "3bc34d6dd8f53797f6e7b9ea35de0c6e0e44269dbea2269ed6b10b8f86a3b1e8", func := "gyttja/gyttjalaw02.SpanChains", spec := "spanChains", unfollowed := true, recurses := true, named := ["math/bits.deBruijn64tab"], apart := false, laid := [("math/bits.deBruijn64tab", laid_math_bits_deBruijn64tab)], narrowed := true }
def SpanChainsUptoSaid : Prop := spanChainsUptoRow.holds Tryd.pinned (OpenSpec.upto spanChainsSpec)

/-- 'gyttjalaw02.SpanBounds', WHERE WHAT IT READS IS OF BULK AT MOST 1048576: true; the input reads as it did. -/
def spanBoundsUptoRow : OpenClaim := { program := "ytjgafgkkpofgbaadoor", sum := "3bc34d6dd8f53797f6e7b9ea35de0c6e0e44269dbea2269ed6b10b8f86a3b1e8", func := "gyttja/gyttjalaw02.SpanBounds", spec := "spanBounds", unfollowed := true, recurses := true, named := ["math/bits.deBruijn64tab"], apart := false, laid := [("math/bits.deBruijn64tab", laid_math_bits_deBruijn64tab)], narrowed := true }
def SpanBoundsUptoSaid : Prop := spanBoundsUptoRow.holds Tryd.pinned (OpenSpec.upto spanBoundsSpec)

end Rows
end Go.Proofs.YtjgafgkkpofgbaaDoor
