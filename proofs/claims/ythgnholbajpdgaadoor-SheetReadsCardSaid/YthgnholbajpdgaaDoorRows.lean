/-
  NARROWER THAN 'FOR EVERY INPUT', by the rows' own cells (each row's printed sentence says how): SheetRows: laid · SheetPlaces: laid · SheetParses: laid · SheetLong: laid · SheetPrints: laid · SheetSpans: laid · SheetCuts: laid · SheetReads: laid · SheetReadings: laid · SheetRaw: laid · SheetMeets: laid · SheetBounds: laid.
  DERIVED. THE GIVEN ROWS OF THIS SEAT. 12 by the template 'for every input the law returns true; each argument reads behind the call as it read before'; 0 by the template 'total and deterministic' (their statements: YthgnholbajpdgaaDoorTotals.lean).
  GIVEN WITH THE SEED: the statements are not yours to turn. If you find one false, say at which input.
  Laid BY PROGRAM, IN A SANDBOX (cutbox-rows.mjs): the forced cells as the released guide's own fill.sh prints them over the translation 9a420a9cfaf87a34… (all of the seat's roots in one cut). By AI agents, Wed Nov 11 2026. No macro, syntax, notation, axiom, sorry.
-/
import Derived.Test.YthgnholbajpdgaaDoorChecked
import GoSem.Claim
import GoSem.ClaimJoined
import GoSem.ClaimMapViews
import Derived.JoinedTies
import Derived.KernelRfl
namespace Go.Proofs.YthgnholbajpdgaaDoor
/- THE CELL 'sum', in the pinned program and in every row, IS THE sha256 OF THE DUMP (.gsa) THAT YthgnholbajpdgaaDoorProg.lean LOADS. Nothing in Lean hashes anything: it is a label: what it is worth is what the hold of that sum in a sandbox is worth. -/
noncomputable def Tryd.pinned : Pinned := { name := "ythgnholbajpdgaadoor", sum := "9a420a9cfaf87a3479fd1d075f484b5d339662573a90822b0bad0dade1ec7bb7", checked := Tryd.checked }
namespace Rows
def none {H : Type} : Left H := { results := [], args := [] }

/- WHAT THE LISTED PACKAGE-LEVEL VARIABLES READ AS WHEN THE CALL BEGINS. Each datum BY PROGRAM (the guide's laid-datum.mjs) off the statement by which the dump's own 'gosem.cut.vars' lays the variable. In a bare row this is a premise. The card (YthgnholbajpdgaaDoorCards.lean) ties it to the program's text. -/
def laid_gyttja_sheet_wordings {H : Type} : DataW H := .agg [.agg [.lit (.string []), .lit (.int .i64 0)], .agg [.lit (.string [109, 97, 114, 107]), .lit (.int .i64 1)], .agg [.lit (.string [121, 101, 97, 114]), .lit (.int .i64 1)], .agg [.lit (.string [112, 97, 105, 114]), .lit (.int .i64 2)], .agg [.lit (.string [115, 108, 117, 109, 112]), .lit (.int .i64 1)], .agg [.lit (.string [98, 101, 100]), .lit (.int .i64 1)], .agg [.lit (.string [103, 97, 112]), .lit (.int .i64 2)]]
def laid_math_bits_deBruijn32tab {H : Type} : DataW H := .agg [.lit (.int .u8 0), .lit (.int .u8 1), .lit (.int .u8 28), .lit (.int .u8 2), .lit (.int .u8 29), .lit (.int .u8 14), .lit (.int .u8 24), .lit (.int .u8 3), .lit (.int .u8 30), .lit (.int .u8 22), .lit (.int .u8 20), .lit (.int .u8 15), .lit (.int .u8 25), .lit (.int .u8 17), .lit (.int .u8 4), .lit (.int .u8 8), .lit (.int .u8 31), .lit (.int .u8 27), .lit (.int .u8 13), .lit (.int .u8 23), .lit (.int .u8 21), .lit (.int .u8 19), .lit (.int .u8 16), .lit (.int .u8 7), .lit (.int .u8 26), .lit (.int .u8 12), .lit (.int .u8 18), .lit (.int .u8 6), .lit (.int .u8 11), .lit (.int .u8 5), .lit (.int .u8 10), .lit (.int .u8 9)]
def laid_math_bits_deBruijn64tab {H : Type} : DataW H := .agg [.lit (.int .u8 0), .lit (.int .u8 1), .lit (.int .u8 56), .lit (.int .u8 2), .lit (.int .u8 57), .lit (.int .u8 49), .lit (.int .u8 28), .lit (.int .u8 3), .lit (.int .u8 61), .lit (.int .u8 58), .lit (.int .u8 42), .lit (.int .u8 50), .lit (.int .u8 38), .lit (.int .u8 29), .lit (.int .u8 17), .lit (.int .u8 4), .lit (.int .u8 62), .lit (.int .u8 47), .lit (.int .u8 59), .lit (.int .u8 36), .lit (.int .u8 45), .lit (.int .u8 43), .lit (.int .u8 51), .lit (.int .u8 22), .lit (.int .u8 53), .lit (.int .u8 39), .lit (.int .u8 33), .lit (.int .u8 30), .lit (.int .u8 24), .lit (.int .u8 18), .lit (.int .u8 12), .lit (.int .u8 5), .lit (.int .u8 63), .lit (.int .u8 55), .lit (.int .u8 48), .lit (.int .u8 27), .lit (.int .u8 60), .lit (.int .u8 41), .lit (.int .u8 37), .lit (.int .u8 16), .lit (.int .u8 46), .lit (.int .u8 35), .lit (.int .u8 44), .lit (.int .u8 21), .lit (.int .u8 52), .lit (.int .u8 32), .lit (.int .u8 23), .lit (.int .u8 11), .lit (.int .u8 54), .lit (.int .u8 26), .lit (.int .u8 40), .lit (.int .u8 15), .lit (.int .u8 34), .lit (.int .u8 20), .lit (.int .u8 31), .lit (.int .u8 10), .lit (.int .u8 25), .lit (.int .u8 14), .lit (.int .u8 19), .lit (.int .u8 9), .lit (.int .u8 13), .lit (.int .u8 8), .lit (.int .u8 7), .lit (.int .u8 6)]
def laid_internal_strconv_uint64pow10 {H : Type} : DataW H := .agg [.lit (.int .u64 1), .lit (.int .u64 10), .lit (.int .u64 100), .lit (.int .u64 1000), .lit (.int .u64 10000), .lit (.int .u64 100000), .lit (.int .u64 1000000), .lit (.int .u64 10000000), .lit (.int .u64 100000000), .lit (.int .u64 1000000000), .lit (.int .u64 10000000000), .lit (.int .u64 100000000000), .lit (.int .u64 1000000000000), .lit (.int .u64 10000000000000), .lit (.int .u64 100000000000000), .lit (.int .u64 1000000000000000), .lit (.int .u64 10000000000000000), .lit (.int .u64 100000000000000000), .lit (.int .u64 1000000000000000000), .lit (.int .u64 10000000000000000000)]

/-- 'gyttjalaw01.SheetRows': WHATEVER THE INPUT: true; the input reads as it did. -/
def sheetRowsSpec : ChangeSpec := { name := "sheetRows", fn := fun _ => fun
  | [d1, d2, d3] => { results := [.lit (.bool true)], args := [d1, d2, d3] }
  | _ => none }
def sheetRowsRow : OpenClaim := { program := "ythgnholbajpdgaadoor", sum := "9a420a9cfaf87a3479fd1d075f484b5d339662573a90822b0bad0dade1ec7bb7", func := "gyttja/gyttjalaw01.SheetRows", spec := "sheetRows", inPlace := ["internal/bytealg.IndexByteString"], unfollowed := true, recurses := true, named := ["gyttja/sheet.wordings"], apart := false, laid := [("gyttja/sheet.wordings", laid_gyttja_sheet_wordings)] }
def SheetRowsSaid : Prop := sheetRowsRow.holds Tryd.pinned (OpenSpec.ofChange sheetRowsSpec)

/-- ITS FALSE NEIGHBOUR: 'it returns false'. Refute it at one input. -/
def sheetRowsWrong : ChangeSpec := { name := "sheetRows", fn := fun _ => fun
  | [d1, d2, d3] => { results := [.lit (.bool false)], args := [d1, d2, d3] }
  | _ => none }
def SheetRowsWrongFalsely : Prop := sheetRowsRow.holds Tryd.pinned (OpenSpec.ofChange sheetRowsWrong)

/-- 'gyttjalaw01.SheetPlaces': WHATEVER THE INPUT: true; the input reads as it did. -/
def sheetPlacesSpec : ChangeSpec := { name := "sheetPlaces", fn := fun _ => fun
  | [d1, d2, d3] => { results := [.lit (.bool true)], args := [d1, d2, d3] }
  | _ => none }
def sheetPlacesRow : OpenClaim := { program := "ythgnholbajpdgaadoor", sum := "9a420a9cfaf87a3479fd1d075f484b5d339662573a90822b0bad0dade1ec7bb7", func := "gyttja/gyttjalaw01.SheetPlaces", spec := "sheetPlaces", inPlace := ["internal/bytealg.IndexByteString"], unfollowed := true, recurses := true, named := ["gyttja/sheet.wordings"], apart := false, laid := [("gyttja/sheet.wordings", laid_gyttja_sheet_wordings)] }
def SheetPlacesSaid : Prop := sheetPlacesRow.holds Tryd.pinned (OpenSpec.ofChange sheetPlacesSpec)

/-- ITS FALSE NEIGHBOUR: 'it returns false'. Refute it at one input. -/
def sheetPlacesWrong : ChangeSpec := { name := "sheetPlaces", fn := fun _ => fun
  | [d1, d2, d3] => { results := [.lit (.bool false)], args := [d1, d2, d3] }
  | _ => none }
def SheetPlacesWrongFalsely : Prop := sheetPlacesRow.holds Tryd.pinned (OpenSpec.ofChange sheetPlacesWrong)

/-- 'gyttjalaw01.SheetParses': WHATEVER THE INPUT: true; the input reads as it did. -/
def sheetParsesSpec : ChangeSpec := { name := "sheetParses", fn := fun _ => fun
  | [d] => { results := [.lit (.bool true)], args := [d] }
  | _ => none }
def sheetParsesRow : OpenClaim := { program := "ythgnholbajpdgaadoor", sum := "9a420a9cfaf87a3479fd1d075f484b5d339662573a90822b0bad0dade1ec7bb7", func := "gyttja/gyttjalaw01.SheetParses", spec := "sheetParses", inPlace := ["internal/bytealg.IndexByteString", "internal/abi.NoEscape"], unfollowed := true, recurses := true, named := ["gyttja/sheet.wordings", "internal/strconv.uint64pow10", "math/bits.deBruijn32tab", "math/bits.deBruijn64tab"], apart := false, laid := [("math/bits.deBruijn32tab", laid_math_bits_deBruijn32tab), ("math/bits.deBruijn64tab", laid_math_bits_deBruijn64tab), ("internal/strconv.uint64pow10", laid_internal_strconv_uint64pow10), ("gyttja/sheet.wordings", laid_gyttja_sheet_wordings)] }
def SheetParsesSaid : Prop := sheetParsesRow.holds Tryd.pinned (OpenSpec.ofChange sheetParsesSpec)

/-- ITS FALSE NEIGHBOUR: 'it returns false'. Refute it at one input. -/
def sheetParsesWrong : ChangeSpec := { name := "sheetParses", fn := fun _ => fun
  | [d] => { results := [.lit (.bool false)], args := [d] }
  | _ => none }
def SheetParsesWrongFalsely : Prop := sheetParsesRow.holds Tryd.pinned (OpenSpec.ofChange sheetParsesWrong)

/-- 'gyttjalaw01.SheetLong': WHATEVER THE INPUT: true; the input reads as it did. -/
def sheetLongSpec : ChangeSpec := { name := "sheetLong", fn := fun _ => fun
  | [d] => { results := [.lit (.bool true)], args := [d] }
  | _ => none }
def sheetLongRow : OpenClaim := { program := "ythgnholbajpdgaadoor", sum := "9a420a9cfaf87a3479fd1d075f484b5d339662573a90822b0bad0dade1ec7bb7", func := "gyttja/gyttjalaw01.SheetLong", spec := "sheetLong", inPlace := ["internal/bytealg.IndexByteString"], unfollowed := true, recurses := true, named := ["gyttja/sheet.wordings"], apart := false, laid := [("gyttja/sheet.wordings", laid_gyttja_sheet_wordings)] }
def SheetLongSaid : Prop := sheetLongRow.holds Tryd.pinned (OpenSpec.ofChange sheetLongSpec)

/-- ITS FALSE NEIGHBOUR: 'it returns false'. Refute it at one input. -/
def sheetLongWrong : ChangeSpec := { name := "sheetLong", fn := fun _ => fun
  | [d] => { results := [.lit (.bool false)], args := [d] }
  | _ => none }
def SheetLongWrongFalsely : Prop := sheetLongRow.holds Tryd.pinned (OpenSpec.ofChange sheetLongWrong)

/-- 'gyttjalaw01.SheetPrints': WHATEVER THE INPUT: true; the input reads as it did. -/
def sheetPrintsSpec : ChangeSpec := { name := "sheetPrints", fn := fun _ => fun
  | [d] => { results := [.lit (.bool true)], args := [d] }
  | _ => none }
def sheetPrintsRow : OpenClaim := { program := "ythgnholbajpdgaadoor", sum := "9a420a9cfaf87a3479fd1d075f484b5d339662573a90822b0bad0dade1ec7bb7", func := "gyttja/gyttjalaw01.SheetPrints", spec := "sheetPrints", inPlace := ["internal/bytealg.IndexByteString", "internal/abi.NoEscape"], unfollowed := true, recurses := true, named := ["gyttja/sheet.wordings", "internal/strconv.uint64pow10", "math/bits.deBruijn32tab", "math/bits.deBruijn64tab"], apart := false, laid := [("math/bits.deBruijn32tab", laid_math_bits_deBruijn32tab), ("math/bits.deBruijn64tab", laid_math_bits_deBruijn64tab), ("internal/strconv.uint64pow10", laid_internal_strconv_uint64pow10), ("gyttja/sheet.wordings", laid_gyttja_sheet_wordings)] }
def SheetPrintsSaid : Prop := sheetPrintsRow.holds Tryd.pinned (OpenSpec.ofChange sheetPrintsSpec)

/-- ITS FALSE NEIGHBOUR: 'it returns false'. Refute it at one input. -/
def sheetPrintsWrong : ChangeSpec := { name := "sheetPrints", fn := fun _ => fun
  | [d] => { results := [.lit (.bool false)], args := [d] }
  | _ => none }
def SheetPrintsWrongFalsely : Prop := sheetPrintsRow.holds Tryd.pinned (OpenSpec.ofChange sheetPrintsWrong)

/-- 'gyttjalaw01.SheetSpans': WHATEVER THE INPUT: true; the input reads as it did. -/
def sheetSpansSpec : ChangeSpec := { name := "sheetSpans", fn := fun _ => fun
  | [d1, d2, d3] => { results := [.lit (.bool true)], args := [d1, d2, d3] }
  | _ => none }
def sheetSpansRow : OpenClaim := { program := "ythgnholbajpdgaadoor", sum := "9a420a9cfaf87a3479fd1d075f484b5d339662573a90822b0bad0dade1ec7bb7", func := "gyttja/gyttjalaw01.SheetSpans", spec := "sheetSpans", inPlace := ["internal/bytealg.IndexByteString"], unfollowed := true, recurses := true, named := ["gyttja/sheet.wordings"], apart := false, laid := [("gyttja/sheet.wordings", laid_gyttja_sheet_wordings)] }
def SheetSpansSaid : Prop := sheetSpansRow.holds Tryd.pinned (OpenSpec.ofChange sheetSpansSpec)

/-- ITS FALSE NEIGHBOUR: 'it returns false'. Refute it at one input. -/
def sheetSpansWrong : ChangeSpec := { name := "sheetSpans", fn := fun _ => fun
  | [d1, d2, d3] => { results := [.lit (.bool false)], args := [d1, d2, d3] }
  | _ => none }
def SheetSpansWrongFalsely : Prop := sheetSpansRow.holds Tryd.pinned (OpenSpec.ofChange sheetSpansWrong)

/-- 'gyttjalaw01.SheetCuts': WHATEVER THE INPUT: true; the input reads as it did. -/
def sheetCutsSpec : ChangeSpec := { name := "sheetCuts", fn := fun _ => fun
  | [d1, d2, d3] => { results := [.lit (.bool true)], args := [d1, d2, d3] }
  | _ => none }
def sheetCutsRow : OpenClaim := { program := "ythgnholbajpdgaadoor", sum := "9a420a9cfaf87a3479fd1d075f484b5d339662573a90822b0bad0dade1ec7bb7", func := "gyttja/gyttjalaw01.SheetCuts", spec := "sheetCuts", inPlace := ["internal/bytealg.IndexByteString"], unfollowed := true, recurses := true, named := ["gyttja/sheet.wordings"], apart := false, laid := [("gyttja/sheet.wordings", laid_gyttja_sheet_wordings)] }
def SheetCutsSaid : Prop := sheetCutsRow.holds Tryd.pinned (OpenSpec.ofChange sheetCutsSpec)

/-- ITS FALSE NEIGHBOUR: 'it returns false'. Refute it at one input. -/
def sheetCutsWrong : ChangeSpec := { name := "sheetCuts", fn := fun _ => fun
  | [d1, d2, d3] => { results := [.lit (.bool false)], args := [d1, d2, d3] }
  | _ => none }
def SheetCutsWrongFalsely : Prop := sheetCutsRow.holds Tryd.pinned (OpenSpec.ofChange sheetCutsWrong)

/-- 'gyttjalaw01.SheetReads': WHATEVER THE INPUT: true; the input reads as it did. -/
def sheetReadsSpec : ChangeSpec := { name := "sheetReads", fn := fun _ => fun
  | [d1, d2] => { results := [.lit (.bool true)], args := [d1, d2] }
  | _ => none }
def sheetReadsRow : OpenClaim := { program := "ythgnholbajpdgaadoor", sum := "9a420a9cfaf87a3479fd1d075f484b5d339662573a90822b0bad0dade1ec7bb7", func := "gyttja/gyttjalaw01.SheetReads", spec := "sheetReads", inPlace := ["internal/bytealg.IndexByteString"], unfollowed := true, recurses := true, named := ["gyttja/sheet.wordings"], apart := false, laid := [("gyttja/sheet.wordings", laid_gyttja_sheet_wordings)] }
def SheetReadsSaid : Prop := sheetReadsRow.holds Tryd.pinned (OpenSpec.ofChange sheetReadsSpec)

/-- ITS FALSE NEIGHBOUR: 'it returns false'. Refute it at one input. -/
def sheetReadsWrong : ChangeSpec := { name := "sheetReads", fn := fun _ => fun
  | [d1, d2] => { results := [.lit (.bool false)], args := [d1, d2] }
  | _ => none }
def SheetReadsWrongFalsely : Prop := sheetReadsRow.holds Tryd.pinned (OpenSpec.ofChange sheetReadsWrong)

/-- 'gyttjalaw01.SheetReadings': WHATEVER THE INPUT: true; the input reads as it did. -/
def sheetReadingsSpec : ChangeSpec := { name := "sheetReadings", fn := fun _ => fun
  | [d1, d2, d3] => { results := [.lit (.bool true)], args := [d1, d2, d3] }
  | _ => none }
def sheetReadingsRow : OpenClaim := { program := "ythgnholbajpdgaadoor", sum := "9a420a9cfaf87a3479fd1d075f484b5d339662573a90822b0bad0dade1ec7bb7", func := "gyttja/gyttjalaw01.SheetReadings", spec := "sheetReadings", inPlace := ["internal/bytealg.IndexByteString"], unfollowed := true, recurses := true, named := ["gyttja/sheet.wordings"], apart := false, laid := [("gyttja/sheet.wordings", laid_gyttja_sheet_wordings)] }
def SheetReadingsSaid : Prop := sheetReadingsRow.holds Tryd.pinned (OpenSpec.ofChange sheetReadingsSpec)

/-- ITS FALSE NEIGHBOUR: 'it returns false'. Refute it at one input. -/
def sheetReadingsWrong : ChangeSpec := { name := "sheetReadings", fn := fun _ => fun
  | [d1, d2, d3] => { results := [.lit (.bool false)], args := [d1, d2, d3] }
  | _ => none }
def SheetReadingsWrongFalsely : Prop := sheetReadingsRow.holds Tryd.pinned (OpenSpec.ofChange sheetReadingsWrong)

/-- 'gyttjalaw01.SheetRaw': WHATEVER THE INPUT: true; the input reads as it did. -/
def sheetRawSpec : ChangeSpec := { name := "sheetRaw", fn := fun _ => fun
  | [d1, d2] => { results := [.lit (.bool true)], args := [d1, d2] }
  | _ => none }
def sheetRawRow : OpenClaim := { program := "ythgnholbajpdgaadoor", sum := "9a420a9cfaf87a3479fd1d075f484b5d339662573a90822b0bad0dade1ec7bb7", func := "gyttja/gyttjalaw01.SheetRaw", spec := "sheetRaw", inPlace := ["internal/bytealg.IndexByteString"], unfollowed := true, recurses := true, named := ["gyttja/sheet.wordings"], apart := false, laid := [("gyttja/sheet.wordings", laid_gyttja_sheet_wordings)] }
def SheetRawSaid : Prop := sheetRawRow.holds Tryd.pinned (OpenSpec.ofChange sheetRawSpec)

/-- ITS FALSE NEIGHBOUR: 'it returns false'. Refute it at one input. -/
def sheetRawWrong : ChangeSpec := { name := "sheetRaw", fn := fun _ => fun
  | [d1, d2] => { results := [.lit (.bool false)], args := [d1, d2] }
  | _ => none }
def SheetRawWrongFalsely : Prop := sheetRawRow.holds Tryd.pinned (OpenSpec.ofChange sheetRawWrong)

/-- 'gyttjalaw01.SheetMeets': WHATEVER THE INPUT: true; the input reads as it did. -/
def sheetMeetsSpec : ChangeSpec := { name := "sheetMeets", fn := fun _ => fun
  | [d1, d2] => { results := [.lit (.bool true)], args := [d1, d2] }
  | _ => none }
def sheetMeetsRow : OpenClaim := { program := "ythgnholbajpdgaadoor", sum := "9a420a9cfaf87a3479fd1d075f484b5d339662573a90822b0bad0dade1ec7bb7", func := "gyttja/gyttjalaw01.SheetMeets", spec := "sheetMeets", inPlace := ["internal/bytealg.IndexByteString"], unfollowed := true, recurses := true, named := ["gyttja/sheet.wordings"], apart := false, laid := [("gyttja/sheet.wordings", laid_gyttja_sheet_wordings)] }
def SheetMeetsSaid : Prop := sheetMeetsRow.holds Tryd.pinned (OpenSpec.ofChange sheetMeetsSpec)

/-- ITS FALSE NEIGHBOUR: 'it returns false'. Refute it at one input. -/
def sheetMeetsWrong : ChangeSpec := { name := "sheetMeets", fn := fun _ => fun
  | [d1, d2] => { results := [.lit (.bool false)], args := [d1, d2] }
  | _ => none }
def SheetMeetsWrongFalsely : Prop := sheetMeetsRow.holds Tryd.pinned (OpenSpec.ofChange sheetMeetsWrong)

/-- 'gyttjalaw01.SheetBounds': WHATEVER THE INPUT: true; the input reads as it did. -/
def sheetBoundsSpec : ChangeSpec := { name := "sheetBounds", fn := fun _ => fun
  | [d1, d2, d3] => { results := [.lit (.bool true)], args := [d1, d2, d3] }
  | _ => none }
def sheetBoundsRow : OpenClaim := { program := "ythgnholbajpdgaadoor", sum := "9a420a9cfaf87a3479fd1d075f484b5d339662573a90822b0bad0dade1ec7bb7", func := "gyttja/gyttjalaw01.SheetBounds", spec := "sheetBounds", inPlace := ["internal/bytealg.IndexByteString"], unfollowed := true, recurses := true, named := ["gyttja/sheet.wordings"], apart := false, laid := [("gyttja/sheet.wordings", laid_gyttja_sheet_wordings)] }
def SheetBoundsSaid : Prop := sheetBoundsRow.holds Tryd.pinned (OpenSpec.ofChange sheetBoundsSpec)

/-- ITS FALSE NEIGHBOUR: 'it returns false'. Refute it at one input. -/
def sheetBoundsWrong : ChangeSpec := { name := "sheetBounds", fn := fun _ => fun
  | [d1, d2, d3] => { results := [.lit (.bool false)], args := [d1, d2, d3] }
  | _ => none }
def SheetBoundsWrongFalsely : Prop := sheetBoundsRow.holds Tryd.pinned (OpenSpec.ofChange sheetBoundsWrong)

/- THE SECOND FORM. 'bulk': how many values and letters a reading holds, each counted each time it is reached (what is shared counts as often as it is met; a slice's spare places count too). A statement '..UptoSaid' is the law's where the arguments, and the package variables that the reading takes, are together of bulk at most 1048576: NARROWER than '..Said'. Prove '..Said' where nothing that the law and all that it calls make is longer than what came in: it says more and counts as full. Else prove '..UptoSaid'. A law counts once. -/
mutual
def uptoBulk {H : Type} : DataW H → Nat
  | .lit (.string bytes) => bytes.length + 1
  | .lit _ => 1
  | .nil => 1
  | .ptr d => uptoBulk d + 1
  | .slice elems spare => uptoBulkAll elems + uptoBulkAll spare + 1
  | .agg parts => uptoBulkAll parts + 1
  | .iface _ d => uptoBulk d + 1
  | .map entries => uptoBulkEntries entries + 1
  | .held _ => 1
def uptoBulkAll {H : Type} : List (DataW H) → Nat
  | [] => 0
  | d :: r => uptoBulk d + uptoBulkAll r
def uptoBulkEntries {H : Type} : List (Lit × DataW H) → Nat
  | [] => 0
  | x :: r => uptoBulkEntry x + uptoBulkEntries r
def uptoBulkEntry {H : Type} : Lit × DataW H → Nat
  | (.string bytes, d) => bytes.length + uptoBulk d + 1
  | (_, d) => uptoBulk d + 1
 end
def uptoSmall : (H : Type) → List (DataW H) → Bool := fun _ ds => decide (uptoBulkAll ds ≤ 1048576)
def OpenSpec.upto (s : _root_.Go.ChangeSpec) : _root_.Go.OpenSpec := { _root_.Go.OpenSpec.ofChange s with cond := some uptoSmall }

/-- 'gyttjalaw01.SheetRows', WHERE WHAT IT READS IS OF BULK AT MOST 1048576: true; the input reads as it did. -/
def sheetRowsUptoRow : OpenClaim := { program := "ythgnholbajpdgaadoor", sum := "9a420a9cfaf87a3479fd1d075f484b5d339662573a90822b0bad0dade1ec7bb7", func := "gyttja/gyttjalaw01.SheetRows", spec := "sheetRows", inPlace := ["internal/bytealg.IndexByteString"], unfollowed := true, recurses := true, named := ["gyttja/sheet.wordings"], apart := false, laid := [("gyttja/sheet.wordings", laid_gyttja_sheet_wordings)], narrowed := true }
def SheetRowsUptoSaid : Prop := sheetRowsUptoRow.holds Tryd.pinned (OpenSpec.upto sheetRowsSpec)

/-- 'gyttjalaw01.SheetPlaces', WHERE WHAT IT READS IS OF BULK AT MOST 1048576: true; the input reads as it did. -/
def sheetPlacesUptoRow : OpenClaim := { program := "ythgnholbajpdgaadoor", sum := "9a420a9cfaf87a3479fd1d075f484b5d339662573a90822b0bad0dade1ec7bb7", func := "gyttja/gyttjalaw01.SheetPlaces", spec := "sheetPlaces", inPlace := ["internal/bytealg.IndexByteString"], unfollowed := true, recurses := true, named := ["gyttja/sheet.wordings"], apart := false, laid := [("gyttja/sheet.wordings", laid_gyttja_sheet_wordings)], narrowed := true }
def SheetPlacesUptoSaid : Prop := sheetPlacesUptoRow.holds Tryd.pinned (OpenSpec.upto sheetPlacesSpec)

/-- 'gyttjalaw01.SheetParses', WHERE WHAT IT READS IS OF BULK AT MOST 1048576: true; the input reads as it did. -/
def sheetParsesUptoRow : OpenClaim := { program := "ythgnholbajpdgaadoor", sum := "9a420a9cfaf87a3479fd1d075f484b5d339662573a90822b0bad0dade1ec7bb7", func := "gyttja/gyttjalaw01.SheetParses", spec := "sheetParses", inPlace := ["internal/bytealg.IndexByteString", "internal/abi.NoEscape"], unfollowed := true, recurses := true, named := ["gyttja/sheet.wordings", "internal/strconv.uint64pow10", "math/bits.deBruijn32tab", "math/bits.deBruijn64tab"], apart := false, laid := [("math/bits.deBruijn32tab", laid_math_bits_deBruijn32tab), ("math/bits.deBruijn64tab", laid_math_bits_deBruijn64tab), ("internal/strconv.uint64pow10", laid_internal_strconv_uint64pow10), ("gyttja/sheet.wordings", laid_gyttja_sheet_wordings)], narrowed := true }
def SheetParsesUptoSaid : Prop := sheetParsesUptoRow.holds Tryd.pinned (OpenSpec.upto sheetParsesSpec)

/-- 'gyttjalaw01.SheetLong', WHERE WHAT IT READS IS OF BULK AT MOST 1048576: true; the input reads as it did. -/
def sheetLongUptoRow : OpenClaim := { program := "ythgnholbajpdgaadoor", sum := "9a420a9cfaf87a3479fd1d075f484b5d339662573a90822b0bad0dade1ec7bb7", func := "gyttja/gyttjalaw01.SheetLong", spec := "sheetLong", inPlace := ["internal/bytealg.IndexByteString"], unfollowed := true, recurses := true, named := ["gyttja/sheet.wordings"], apart := false, laid := [("gyttja/sheet.wordings", laid_gyttja_sheet_wordings)], narrowed := true }
def SheetLongUptoSaid : Prop := sheetLongUptoRow.holds Tryd.pinned (OpenSpec.upto sheetLongSpec)

/-- 'gyttjalaw01.SheetPrints', WHERE WHAT IT READS IS OF BULK AT MOST 1048576: true; the input reads as it did. -/
def sheetPrintsUptoRow : OpenClaim := { program := "ythgnholbajpdgaadoor", sum := "9a420a9cfaf87a3479fd1d075f484b5d339662573a90822b0bad0dade1ec7bb7", func := "gyttja/gyttjalaw01.SheetPrints", spec := "sheetPrints", inPlace := ["internal/bytealg.IndexByteString", "internal/abi.NoEscape"], unfollowed := true, recurses := true, named := ["gyttja/sheet.wordings", "internal/strconv.uint64pow10", "math/bits.deBruijn32tab", "math/bits.deBruijn64tab"], apart := false, laid := [("math/bits.deBruijn32tab", laid_math_bits_deBruijn32tab), ("math/bits.deBruijn64tab", laid_math_bits_deBruijn64tab), ("internal/strconv.uint64pow10", laid_internal_strconv_uint64pow10), ("gyttja/sheet.wordings", laid_gyttja_sheet_wordings)], narrowed := true }
def SheetPrintsUptoSaid : Prop := sheetPrintsUptoRow.holds Tryd.pinned (OpenSpec.upto sheetPrintsSpec)

/-- 'gyttjalaw01.SheetSpans', WHERE WHAT IT READS IS OF BULK AT MOST 1048576: true; the input reads as it did. -/
def sheetSpansUptoRow : OpenClaim := { program := "ythgnholbajpdgaadoor", sum := "9a420a9cfaf87a3479fd1d075f484b5d339662573a90822b0bad0dade1ec7bb7", func := "gyttja/gyttjalaw01.SheetSpans", spec := "sheetSpans", inPlace := ["internal/bytealg.IndexByteString"], unfollowed := true, recurses := true, named := ["gyttja/sheet.wordings"], apart := false, laid := [("gyttja/sheet.wordings", laid_gyttja_sheet_wordings)], narrowed := true }
def SheetSpansUptoSaid : Prop := sheetSpansUptoRow.holds Tryd.pinned (OpenSpec.upto sheetSpansSpec)

/-- 'gyttjalaw01.SheetCuts', WHERE WHAT IT READS IS OF BULK AT MOST 1048576: true; the input reads as it did. -/
def sheetCutsUptoRow : OpenClaim := { program := "ythgnholbajpdgaadoor", sum := "9a420a9cfaf87a3479fd1d075f484b5d339662573a90822b0bad0dade1ec7bb7", func := "gyttja/gyttjalaw01.SheetCuts", spec := "sheetCuts", inPlace := ["internal/bytealg.IndexByteString"], unfollowed := true, recurses := true, named := ["gyttja/sheet.wordings"], apart := false, laid := [("gyttja/sheet.wordings", laid_gyttja_sheet_wordings)], narrowed := true }
def SheetCutsUptoSaid : Prop := sheetCutsUptoRow.holds Tryd.pinned (OpenSpec.upto sheetCutsSpec)

/-- 'gyttjalaw01.SheetReads', WHERE WHAT IT READS IS OF BULK AT MOST 1048576: true; the input reads as it did. -/
def sheetReadsUptoRow : OpenClaim := { program := "ythgnholbajpdgaadoor", sum := "9a420a9cfaf87a3479fd1d075f484b5d339662573a90822b0bad0dade1ec7bb7", func := "gyttja/gyttjalaw01.SheetReads", spec := "sheetReads", inPlace := ["internal/bytealg.IndexByteString"], unfollowed := true, recurses := true, named := ["gyttja/sheet.wordings"], apart := false, laid := [("gyttja/sheet.wordings", laid_gyttja_sheet_wordings)], narrowed := true }
def SheetReadsUptoSaid : Prop := sheetReadsUptoRow.holds Tryd.pinned (OpenSpec.upto sheetReadsSpec)

/-- 'gyttjalaw01.SheetReadings', WHERE WHAT IT READS IS OF BULK AT MOST 1048576: true; the input reads as it did. -/
def sheetReadingsUptoRow : OpenClaim := { program := "ythgnholbajpdgaadoor", sum := "9a420a9cfaf87a3479fd1d075f484b5d339662573a90822b0bad0dade1ec7bb7", func := "gyttja/gyttjalaw01.SheetReadings", spec := "sheetReadings", inPlace := ["internal/bytealg.IndexByteString"], unfollowed := true, recurses := true, named := ["gyttja/sheet.wordings"], apart := false, laid := [("gyttja/sheet.wordings", laid_gyttja_sheet_wordings)], narrowed := true }
def SheetReadingsUptoSaid : Prop := sheetReadingsUptoRow.holds Tryd.pinned (OpenSpec.upto sheetReadingsSpec)

/-- 'gyttjalaw01.SheetRaw', WHERE WHAT IT READS IS OF BULK AT MOST 1048576: true; the input reads as it did. -/
def sheetRawUptoRow : OpenClaim := { program := "ythgnholbajpdgaadoor", sum := "9a420a9cfaf87a3479fd1d075f484b5d339662573a90822b0bad0dade1ec7bb7", func := "gyttja/gyttjalaw01.SheetRaw", spec := "sheetRaw", inPlace := ["internal/bytealg.IndexByteString"], unfollowed := true, recurses := true, named := ["gyttja/sheet.wordings"], apart := false, laid := [("gyttja/sheet.wordings", laid_gyttja_sheet_wordings)], narrowed := true }
def SheetRawUptoSaid : Prop := sheetRawUptoRow.holds Tryd.pinned (OpenSpec.upto sheetRawSpec)

/-- 'gyttjalaw01.SheetMeets', WHERE WHAT IT READS IS OF BULK AT MOST 1048576: true; the input reads as it did. -/
def sheetMeetsUptoRow : OpenClaim := { program := "ythgnholbajpdgaadoor", sum := "9a420a9cfaf87a3479fd1d075f484b5d339662573a90822b0bad0dade1ec7bb7", func := "gyttja/gyttjalaw01.SheetMeets", spec := "sheetMeets", inPlace := ["internal/bytealg.IndexByteString"], unfollowed := true, recurses := true, named := ["gyttja/sheet.wordings"], apart := false, laid := [("gyttja/sheet.wordings", laid_gyttja_sheet_wordings)], narrowed := true }
def SheetMeetsUptoSaid : Prop := sheetMeetsUptoRow.holds Tryd.pinned (OpenSpec.upto sheetMeetsSpec)

/-- 'gyttjalaw01.SheetBounds', WHERE WHAT IT READS IS OF BULK AT MOST 1048576: true; the input reads as it did. -/
def sheetBoundsUptoRow : OpenClaim := { program := "ythgnholbajpdgaadoor", sum := "9a420a9cfaf87a3479fd1d075f484b5d339662573a90822b0bad0dade1ec7bb7", func := "gyttja/gyttjalaw01.SheetBounds", spec := "sheetBounds", inPlace := ["internal/bytealg.IndexByteString"], unfollowed := true, recurses := true, named := ["gyttja/sheet.wordings"], apart := false, laid := [("gyttja/sheet.wordings", laid_gyttja_sheet_wordings)], narrowed := true }
def SheetBoundsUptoSaid : Prop := sheetBoundsUptoRow.holds Tryd.pinned (OpenSpec.upto sheetBoundsSpec)

end Rows
end Go.Proofs.YthgnholbajpdgaaDoor
