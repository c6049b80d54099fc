/-
  NARROWER THAN 'FOR EVERY INPUT', by the rows' own cells (each row's printed sentence says how): SheetAdds: laid · SheetBetween: laid · SheetSplices: laid · SheetParts: laid · SheetTogether: laid.
  DERIVED. THE GIVEN ROWS OF THIS SEAT. 5 by the template 'for every input the law returns true; each argument reads behind the call as it read before'; 0 by the template 'total and deterministic' (their statements: YtdljcjbghinhiaaDoorTotals.lean).
  GIVEN WITH THE SEED: the statements are not yours to turn. If you find one false, say at which input.
  Laid BY PROGRAM, IN A SANDBOX (cutbox-rows.mjs): the forced cells as the released guide's own fill.sh prints them over the translation 2d91fe4dcd91c1e5… (all of the seat's roots in one cut). By AI agents, Wed Nov 11 2026. No macro, syntax, notation, axiom, sorry.
-/
import Derived.Test.YtdljcjbghinhiaaDoorChecked
import GoSem.Claim
import GoSem.ClaimJoined
import GoSem.ClaimMapViews
import Derived.JoinedTies
import Derived.KernelRfl
namespace Go.Proofs.YtdljcjbghinhiaaDoor
/- THE CELL 'sum', in the pinned program and in every row, IS THE sha256 OF THE DUMP (.gsa) THAT YtdljcjbghinhiaaDoorProg.lean LOADS. Nothing in Lean hashes anything: it is a label: what it is worth is what the hold of that sum in a sandbox is worth. -/
noncomputable def Tryd.pinned : Pinned := { name := "ytdljcjbghinhiaadoor", sum := "2d91fe4dcd91c1e594aa51086483bf86a54c6aaa35b9e8ea9a387e8788d030c4", checked := Tryd.checked }
namespace Rows
def none {H : Type} : Left H := { results := [], args := [] }

/- WHAT THE LISTED PACKAGE-LEVEL VARIABLES READ AS WHEN THE CALL BEGINS. Each datum BY PROGRAM (the guide's laid-datum.mjs) off the statement by which the dump's own 'gosem.cut.vars' lays the variable. In a bare row this is a premise. The card (YtdljcjbghinhiaaDoorCards.lean) ties it to the program's text. -/
def laid_gyttja_sheet_wordings {H : Type} : DataW H := .agg [.agg [.lit (.string []), .lit (.int .i64 0)], .agg [.lit (.string [109, 97, 114, 107]), .lit (.int .i64 1)], .agg [.lit (.string [121, 101, 97, 114]), .lit (.int .i64 1)], .agg [.lit (.string [112, 97, 105, 114]), .lit (.int .i64 2)], .agg [.lit (.string [115, 108, 117, 109, 112]), .lit (.int .i64 1)], .agg [.lit (.string [98, 101, 100]), .lit (.int .i64 1)], .agg [.lit (.string [103, 97, 112]), .lit (.int .i64 2)]]

/-- 'gyttjalaw01.SheetAdds': WHATEVER THE INPUT: true; the input reads as it did. -/
def sheetAddsSpec : ChangeSpec := { name := "sheetAdds", fn := fun _ => fun
  | [d1, d2, d3] => { results := [.lit (.bool true)], args := [d1, d2, d3] }
  | _ => none }
def sheetAddsRow : OpenClaim := { program := "ytdljcjbghinhiaadoor", sum := "2d91fe4dcd91c1e594aa51086483bf86a54c6aaa35b9e8ea9a387e8788d030c4", func := "gyttja/gyttjalaw01.SheetAdds", spec := "sheetAdds", inPlace := ["internal/bytealg.IndexByteString"], unfollowed := true, recurses := true, named := ["gyttja/sheet.wordings"], apart := false, laid := [("gyttja/sheet.wordings", laid_gyttja_sheet_wordings)] }
def SheetAddsSaid : Prop := sheetAddsRow.holds Tryd.pinned (OpenSpec.ofChange sheetAddsSpec)

/-- ITS FALSE NEIGHBOUR: 'it returns false'. Refute it at one input. -/
def sheetAddsWrong : ChangeSpec := { name := "sheetAdds", fn := fun _ => fun
  | [d1, d2, d3] => { results := [.lit (.bool false)], args := [d1, d2, d3] }
  | _ => none }
def SheetAddsWrongFalsely : Prop := sheetAddsRow.holds Tryd.pinned (OpenSpec.ofChange sheetAddsWrong)

/-- 'gyttjalaw01.SheetBetween': WHATEVER THE INPUT: true; the input reads as it did. -/
def sheetBetweenSpec : ChangeSpec := { name := "sheetBetween", fn := fun _ => fun
  | [d1, d2] => { results := [.lit (.bool true)], args := [d1, d2] }
  | _ => none }
def sheetBetweenRow : OpenClaim := { program := "ytdljcjbghinhiaadoor", sum := "2d91fe4dcd91c1e594aa51086483bf86a54c6aaa35b9e8ea9a387e8788d030c4", func := "gyttja/gyttjalaw01.SheetBetween", spec := "sheetBetween", inPlace := ["internal/bytealg.IndexByteString"], unfollowed := true, recurses := true, named := ["gyttja/sheet.wordings"], apart := false, laid := [("gyttja/sheet.wordings", laid_gyttja_sheet_wordings)] }
def SheetBetweenSaid : Prop := sheetBetweenRow.holds Tryd.pinned (OpenSpec.ofChange sheetBetweenSpec)

/-- ITS FALSE NEIGHBOUR: 'it returns false'. Refute it at one input. -/
def sheetBetweenWrong : ChangeSpec := { name := "sheetBetween", fn := fun _ => fun
  | [d1, d2] => { results := [.lit (.bool false)], args := [d1, d2] }
  | _ => none }
def SheetBetweenWrongFalsely : Prop := sheetBetweenRow.holds Tryd.pinned (OpenSpec.ofChange sheetBetweenWrong)

/-- 'gyttjalaw01.SheetSplices': WHATEVER THE INPUT: true; the input reads as it did. -/
def sheetSplicesSpec : ChangeSpec := { name := "sheetSplices", fn := fun _ => fun
  | [d1, d2, d3] => { results := [.lit (.bool true)], args := [d1, d2, d3] }
  | _ => none }
def sheetSplicesRow : OpenClaim := { program := "ytdljcjbghinhiaadoor", sum := "2d91fe4dcd91c1e594aa51086483bf86a54c6aaa35b9e8ea9a387e8788d030c4", func := "gyttja/gyttjalaw01.SheetSplices", spec := "sheetSplices", inPlace := ["internal/bytealg.IndexByteString"], unfollowed := true, recurses := true, named := ["gyttja/sheet.wordings"], apart := false, laid := [("gyttja/sheet.wordings", laid_gyttja_sheet_wordings)] }
def SheetSplicesSaid : Prop := sheetSplicesRow.holds Tryd.pinned (OpenSpec.ofChange sheetSplicesSpec)

/-- ITS FALSE NEIGHBOUR: 'it returns false'. Refute it at one input. -/
def sheetSplicesWrong : ChangeSpec := { name := "sheetSplices", fn := fun _ => fun
  | [d1, d2, d3] => { results := [.lit (.bool false)], args := [d1, d2, d3] }
  | _ => none }
def SheetSplicesWrongFalsely : Prop := sheetSplicesRow.holds Tryd.pinned (OpenSpec.ofChange sheetSplicesWrong)

/-- 'gyttjalaw01.SheetParts': WHATEVER THE INPUT: true; the input reads as it did. -/
def sheetPartsSpec : ChangeSpec := { name := "sheetParts", fn := fun _ => fun
  | [d1, d2] => { results := [.lit (.bool true)], args := [d1, d2] }
  | _ => none }
def sheetPartsRow : OpenClaim := { program := "ytdljcjbghinhiaadoor", sum := "2d91fe4dcd91c1e594aa51086483bf86a54c6aaa35b9e8ea9a387e8788d030c4", func := "gyttja/gyttjalaw01.SheetParts", spec := "sheetParts", inPlace := ["internal/bytealg.IndexByteString"], unfollowed := true, recurses := true, named := ["gyttja/sheet.wordings"], apart := false, laid := [("gyttja/sheet.wordings", laid_gyttja_sheet_wordings)] }
def SheetPartsSaid : Prop := sheetPartsRow.holds Tryd.pinned (OpenSpec.ofChange sheetPartsSpec)

/-- ITS FALSE NEIGHBOUR: 'it returns false'. Refute it at one input. -/
def sheetPartsWrong : ChangeSpec := { name := "sheetParts", fn := fun _ => fun
  | [d1, d2] => { results := [.lit (.bool false)], args := [d1, d2] }
  | _ => none }
def SheetPartsWrongFalsely : Prop := sheetPartsRow.holds Tryd.pinned (OpenSpec.ofChange sheetPartsWrong)

/-- 'gyttjalaw01.SheetTogether': WHATEVER THE INPUT: true; the input reads as it did. -/
def sheetTogetherSpec : ChangeSpec := { name := "sheetTogether", fn := fun _ => fun
  | [d1, d2, d3] => { results := [.lit (.bool true)], args := [d1, d2, d3] }
  | _ => none }
def sheetTogetherRow : OpenClaim := { program := "ytdljcjbghinhiaadoor", sum := "2d91fe4dcd91c1e594aa51086483bf86a54c6aaa35b9e8ea9a387e8788d030c4", func := "gyttja/gyttjalaw01.SheetTogether", spec := "sheetTogether", inPlace := ["internal/bytealg.IndexByteString"], unfollowed := true, recurses := true, named := ["gyttja/sheet.wordings"], apart := false, laid := [("gyttja/sheet.wordings", laid_gyttja_sheet_wordings)] }
def SheetTogetherSaid : Prop := sheetTogetherRow.holds Tryd.pinned (OpenSpec.ofChange sheetTogetherSpec)

/-- ITS FALSE NEIGHBOUR: 'it returns false'. Refute it at one input. -/
def sheetTogetherWrong : ChangeSpec := { name := "sheetTogether", fn := fun _ => fun
  | [d1, d2, d3] => { results := [.lit (.bool false)], args := [d1, d2, d3] }
  | _ => none }
def SheetTogetherWrongFalsely : Prop := sheetTogetherRow.holds Tryd.pinned (OpenSpec.ofChange sheetTogetherWrong)

/- THE SECOND FORM. 'bulk': how many values and letters a reading holds, each counted each time it is reached (what is shared counts as often as it is met; a slice's spare places count too). A statement '..UptoSaid' is the law's where the arguments, and the package variables that the reading takes, are together of bulk at most 1048576: NARROWER than '..Said'. Prove '..Said' where nothing that the law and all that it calls make is longer than what came in: it says more and counts as full. Else prove '..UptoSaid'. A law counts once. -/
mutual
def uptoBulk {H : Type} : DataW H → Nat
  | .lit (.string bytes) => bytes.length + 1
  | .lit _ => 1
  | .nil => 1
  | .ptr d => uptoBulk d + 1
  | .slice elems spare => uptoBulkAll elems + uptoBulkAll spare + 1
  | .agg parts => uptoBulkAll parts + 1
  | .iface _ d => uptoBulk d + 1
  | .map entries => uptoBulkEntries entries + 1
  | .held _ => 1
def uptoBulkAll {H : Type} : List (DataW H) → Nat
  | [] => 0
  | d :: r => uptoBulk d + uptoBulkAll r
def uptoBulkEntries {H : Type} : List (Lit × DataW H) → Nat
  | [] => 0
  | x :: r => uptoBulkEntry x + uptoBulkEntries r
def uptoBulkEntry {H : Type} : Lit × DataW H → Nat
  | (.string bytes, d) => bytes.length + uptoBulk d + 1
  | (_, d) => uptoBulk d + 1
 end
def uptoSmall : (H : Type) → List (DataW H) → Bool := fun _ ds => decide (uptoBulkAll ds ≤ 1048576)
def OpenSpec.upto (s : _root_.Go.ChangeSpec) : _root_.Go.OpenSpec := { _root_.Go.OpenSpec.ofChange s with cond := some uptoSmall }

/-- 'gyttjalaw01.SheetAdds', WHERE WHAT IT READS IS OF BULK AT MOST 1048576: true; the input reads as it did. -/
def sheetAddsUptoRow : OpenClaim := { program := "ytdljcjbghinhiaadoor", sum := "2d91fe4dcd91c1e594aa51086483bf86a54c6aaa35b9e8ea9a387e8788d030c4", func := "gyttja/gyttjalaw01.SheetAdds", spec := "sheetAdds", inPlace := ["internal/bytealg.IndexByteString"], unfollowed := true, recurses := true, named := ["gyttja/sheet.wordings"], apart := false, laid := [("gyttja/sheet.wordings", laid_gyttja_sheet_wordings)], narrowed := true }
def SheetAddsUptoSaid : Prop := sheetAddsUptoRow.holds Tryd.pinned (OpenSpec.upto sheetAddsSpec)

/-- 'gyttjalaw01.SheetBetween', WHERE WHAT IT READS IS OF BULK AT MOST 1048576: true; the input reads as it did. -/
def sheetBetweenUptoRow : OpenClaim := { program := "ytdljcjbghinhiaadoor", sum := "2d91fe4dcd91c1e594aa51086483bf86a54c6aaa35b9e8ea9a387e8788d030c4", func := "gyttja/gyttjalaw01.SheetBetween", spec := "sheetBetween", inPlace := ["internal/bytealg.IndexByteString"], unfollowed := true, recurses := true, named := ["gyttja/sheet.wordings"], apart := false, laid := [("gyttja/sheet.wordings", laid_gyttja_sheet_wordings)], narrowed := true }
def SheetBetweenUptoSaid : Prop := sheetBetweenUptoRow.holds Tryd.pinned (OpenSpec.upto sheetBetweenSpec)

/-- 'gyttjalaw01.SheetSplices', WHERE WHAT IT READS IS OF BULK AT MOST 1048576: true; the input reads as it did. -/
def sheetSplicesUptoRow : OpenClaim := { program := "ytdljcjbghinhiaadoor", sum := "2d91fe4dcd91c1e594aa51086483bf86a54c6aaa35b9e8ea9a387e8788d030c4", func := "gyttja/gyttjalaw01.SheetSplices", spec := "sheetSplices", inPlace := ["internal/bytealg.IndexByteString"], unfollowed := true, recurses := true, named := ["gyttja/sheet.wordings"], apart := false, laid := [("gyttja/sheet.wordings", laid_gyttja_sheet_wordings)], narrowed := true }
def SheetSplicesUptoSaid : Prop := sheetSplicesUptoRow.holds Tryd.pinned (OpenSpec.upto sheetSplicesSpec)

/-- 'gyttjalaw01.SheetParts', WHERE WHAT IT READS IS OF BULK AT MOST 1048576: true; the input reads as it did. -/
def sheetPartsUptoRow : OpenClaim := { program := "ytdljcjbghinhiaadoor", sum := "2d91fe4dcd91c1e594aa51086483bf86a54c6aaa35b9e8ea9a387e8788d030c4", func := "gyttja/gyttjalaw01.SheetParts", spec := "sheetParts", inPlace := ["internal/bytealg.IndexByteString"], unfollowed := true, recurses := true, named := ["gyttja/sheet.wordings"], apart := false, laid := [("gyttja/sheet.wordings", laid_gyttja_sheet_wordings)], narrowed := true }
def SheetPartsUptoSaid : Prop := sheetPartsUptoRow.holds Tryd.pinned (OpenSpec.upto sheetPartsSpec)

/-- 'gyttjalaw01.SheetTogether', WHERE WHAT IT READS IS OF BULK AT MOST 1048576: true; the input reads as it did. -/
def sheetTogetherUptoRow : OpenClaim := { program := "ytdljcjbghinhiaadoor", sum := "2d91fe4dcd91c1e594aa51086483bf86a54c6aaa35b9e8ea9a387e8788d030c4", func := "gyttja/gyttjalaw01.SheetTogether", spec := "sheetTogether", inPlace := ["internal/bytealg.IndexByteString"], unfollowed := true, recurses := true, named := ["gyttja/sheet.wordings"], apart := false, laid := [("gyttja/sheet.wordings", laid_gyttja_sheet_wordings)], narrowed := true }
def SheetTogetherUptoSaid : Prop := sheetTogetherUptoRow.holds Tryd.pinned (OpenSpec.upto sheetTogetherSpec)

end Rows
end Go.Proofs.YtdljcjbghinhiaaDoor
