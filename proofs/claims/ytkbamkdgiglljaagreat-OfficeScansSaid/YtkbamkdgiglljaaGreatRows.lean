/-
  No cell of these rows narrows 'for every input' (looked for: loops, veiled, ifaces, maps, wideKeys, modest, calm, conditions, laid).
  DERIVED. THE GIVEN ROWS OF THIS SEAT. 4 by the template 'for every input the law returns true; each argument reads behind the call as it read before'; 0 by the template 'total and deterministic' (their statements: YtkbamkdgiglljaaGreatTotals.lean).
  GIVEN WITH THE SEED: the statements are not yours to turn. If you find one false, say at which input.
  Laid BY PROGRAM, IN A SANDBOX (cutbox-rows.mjs): the forced cells as the released guide's own fill.sh prints them over the translation 6725627f05c694a8… (all of the seat's roots in one cut). By AI agents, Wed Nov 11 2026. No macro, syntax, notation, axiom, sorry.
-/
import Derived.Test.YtkbamkdgiglljaaGreatChecked
import GoSem.Claim
import GoSem.ClaimJoined
import GoSem.ClaimMapViews
import Derived.JoinedTies
import Derived.KernelRfl
namespace Go.Proofs.YtkbamkdgiglljaaGreat
/- THE CELL 'sum', in the pinned program and in every row, IS THE sha256 OF THE DUMP (.gsa) THAT YtkbamkdgiglljaaGreatProg.lean LOADS. Nothing in Lean hashes anything: it is a label: what it is worth is what the hold of that sum in a sandbox is worth. -/
noncomputable def Tryz.pinned : Pinned := { name := "ytkbamkdgiglljaagreat", sum := "6725627f05c694a8af8a784b3a6b52fa96b92857b836dc8cf9e60fb6370aa31c", checked := Tryz.checked }
namespace Rows
def none {H : Type} : Left H := { results := [], args := [] }

/-- 'gyttjalaw08.OfficeEntries': WHATEVER THE INPUT: true; the input reads as it did. -/
def officeEntriesSpec : ChangeSpec := { name := "officeEntries", fn := fun _ => fun
  | [d1, d2] => { results := [.lit (.bool true)], args := [d1, d2] }
  | _ => none }
def officeEntriesRow : OpenClaim := { program := "ytkbamkdgiglljaagreat", sum := "6725627f05c694a8af8a784b3a6b52fa96b92857b836dc8cf9e60fb6370aa31c", func := "gyttja/gyttjalaw08.OfficeEntries", spec := "officeEntries", unfollowed := true, recurses := true, apart := false }
def OfficeEntriesSaid : Prop := officeEntriesRow.holds Tryz.pinned (OpenSpec.ofChange officeEntriesSpec)

/-- ITS FALSE NEIGHBOUR: 'it returns false'. Refute it at one input. -/
def officeEntriesWrong : ChangeSpec := { name := "officeEntries", fn := fun _ => fun
  | [d1, d2] => { results := [.lit (.bool false)], args := [d1, d2] }
  | _ => none }
def OfficeEntriesWrongFalsely : Prop := officeEntriesRow.holds Tryz.pinned (OpenSpec.ofChange officeEntriesWrong)

/-- 'gyttjalaw08.OfficeScans': WHATEVER THE INPUT: true; the input reads as it did. -/
def officeScansSpec : ChangeSpec := { name := "officeScans", fn := fun _ => fun
  | [d1, d2, d3] => { results := [.lit (.bool true)], args := [d1, d2, d3] }
  | _ => none }
def officeScansRow : OpenClaim := { program := "ytkbamkdgiglljaagreat", sum := "6725627f05c694a8af8a784b3a6b52fa96b92857b836dc8cf9e60fb6370aa31c", func := "gyttja/gyttjalaw08.OfficeScans", spec := "officeScans", unfollowed := true, recurses := true, apart := false }
def OfficeScansSaid : Prop := officeScansRow.holds Tryz.pinned (OpenSpec.ofChange officeScansSpec)

/-- ITS FALSE NEIGHBOUR: 'it returns false'. Refute it at one input. -/
def officeScansWrong : ChangeSpec := { name := "officeScans", fn := fun _ => fun
  | [d1, d2, d3] => { results := [.lit (.bool false)], args := [d1, d2, d3] }
  | _ => none }
def OfficeScansWrongFalsely : Prop := officeScansRow.holds Tryz.pinned (OpenSpec.ofChange officeScansWrong)

/-- 'gyttjalaw08.OfficeAdds': WHATEVER THE INPUT: true; the input reads as it did. -/
def officeAddsSpec : ChangeSpec := { name := "officeAdds", fn := fun _ => fun
  | [d1, d2, d3] => { results := [.lit (.bool true)], args := [d1, d2, d3] }
  | _ => none }
def officeAddsRow : OpenClaim := { program := "ytkbamkdgiglljaagreat", sum := "6725627f05c694a8af8a784b3a6b52fa96b92857b836dc8cf9e60fb6370aa31c", func := "gyttja/gyttjalaw08.OfficeAdds", spec := "officeAdds", unfollowed := true, recurses := true, apart := false }
def OfficeAddsSaid : Prop := officeAddsRow.holds Tryz.pinned (OpenSpec.ofChange officeAddsSpec)

/-- ITS FALSE NEIGHBOUR: 'it returns false'. Refute it at one input. -/
def officeAddsWrong : ChangeSpec := { name := "officeAdds", fn := fun _ => fun
  | [d1, d2, d3] => { results := [.lit (.bool false)], args := [d1, d2, d3] }
  | _ => none }
def OfficeAddsWrongFalsely : Prop := officeAddsRow.holds Tryz.pinned (OpenSpec.ofChange officeAddsWrong)

/-- 'gyttjalaw08.OfficeJoins': WHATEVER THE INPUT: true; the input reads as it did. -/
def officeJoinsSpec : ChangeSpec := { name := "officeJoins", fn := fun _ => fun
  | [d1, d2] => { results := [.lit (.bool true)], args := [d1, d2] }
  | _ => none }
def officeJoinsRow : OpenClaim := { program := "ytkbamkdgiglljaagreat", sum := "6725627f05c694a8af8a784b3a6b52fa96b92857b836dc8cf9e60fb6370aa31c", func := "gyttja/gyttjalaw08.OfficeJoins", spec := "officeJoins", unfollowed := true, recurses := true, apart := false }
def OfficeJoinsSaid : Prop := officeJoinsRow.holds Tryz.pinned (OpenSpec.ofChange officeJoinsSpec)

/-- ITS FALSE NEIGHBOUR: 'it returns false'. Refute it at one input. -/
def officeJoinsWrong : ChangeSpec := { name := "officeJoins", fn := fun _ => fun
  | [d1, d2] => { results := [.lit (.bool false)], args := [d1, d2] }
  | _ => none }
def OfficeJoinsWrongFalsely : Prop := officeJoinsRow.holds Tryz.pinned (OpenSpec.ofChange officeJoinsWrong)

/- THE SECOND FORM. 'bulk': how many values and letters a reading holds, each counted each time it is reached (what is shared counts as often as it is met; a slice's spare places count too). A statement '..UptoSaid' is the law's where the arguments, and the package variables that the reading takes, are together of bulk at most 1048576: NARROWER than '..Said'. Prove '..Said' where nothing that the law and all that it calls make is longer than what came in: it says more and counts as full. Else prove '..UptoSaid'. A law counts once. -/
mutual
def uptoBulk {H : Type} : DataW H → Nat
  | .lit (.string bytes) => bytes.length + 1
  | .lit _ => 1
  | .nil => 1
  | .ptr d => uptoBulk d + 1
  | .slice elems spare => uptoBulkAll elems + uptoBulkAll spare + 1
  | .agg parts => uptoBulkAll parts + 1
  | .iface _ d => uptoBulk d + 1
  | .map entries => uptoBulkEntries entries + 1
  | .held _ => 1
def uptoBulkAll {H : Type} : List (DataW H) → Nat
  | [] => 0
  | d :: r => uptoBulk d + uptoBulkAll r
def uptoBulkEntries {H : Type} : List (Lit × DataW H) → Nat
  | [] => 0
  | x :: r => uptoBulkEntry x + uptoBulkEntries r
def uptoBulkEntry {H : Type} : Lit × DataW H → Nat
  | (.string bytes, d) => bytes.length + uptoBulk d + 1
  | (_, d) => uptoBulk d + 1
 end
def uptoSmall : (H : Type) → List (DataW H) → Bool := fun _ ds => decide (uptoBulkAll ds ≤ 1048576)
def OpenSpec.upto (s : _root_.Go.ChangeSpec) : _root_.Go.OpenSpec := { _root_.Go.OpenSpec.ofChange s with cond := some uptoSmall }

/-- 'gyttjalaw08.OfficeEntries', WHERE WHAT IT READS IS OF BULK AT MOST 1048576: true; the input reads as it did. -/
def officeEntriesUptoRow : OpenClaim := { program := "ytkbamkdgiglljaagreat", sum := "6725627f05c694a8af8a784b3a6b52fa96b92857b836dc8cf9e60fb6370aa31c", func := "gyttja/gyttjalaw08.OfficeEntries", spec := "officeEntries", unfollowed := true, recurses := true, apart := false, narrowed := true }
def OfficeEntriesUptoSaid : Prop := officeEntriesUptoRow.holds Tryz.pinned (OpenSpec.upto officeEntriesSpec)

/-- 'gyttjalaw08.OfficeScans', WHERE WHAT IT READS IS OF BULK AT MOST 1048576: true; the input reads as it did. -/
def officeScansUptoRow : OpenClaim := { program := "ytkbamkdgiglljaagreat", sum := "6725627f05c694a8af8a784b3a6b52fa96b92857b836dc8cf9e60fb6370aa31c", func := "gyttja/gyttjalaw08.OfficeScans", spec := "officeScans", unfollowed := true, recurses := true, apart := false, narrowed := true }
def OfficeScansUptoSaid : Prop := officeScansUptoRow.holds Tryz.pinned (OpenSpec.upto officeScansSpec)

/-- 'gyttjalaw08.OfficeAdds', WHERE WHAT IT READS IS OF BULK AT MOST 1048576: true; the input reads as it did. -/
def officeAddsUptoRow : OpenClaim := { program := "ytkbamkdgiglljaagreat", sum := "6725627f05c694a8af8a784b3a6b52fa96b92857b836dc8cf9e60fb6370aa31c", func := "gyttja/gyttjalaw08.OfficeAdds", spec := "officeAdds", unfollowed := true, recurses := true, apart := false, narrowed := true }
def OfficeAddsUptoSaid : Prop := officeAddsUptoRow.holds Tryz.pinned (OpenSpec.upto officeAddsSpec)

/-- 'gyttjalaw08.OfficeJoins', WHERE WHAT IT READS IS OF BULK AT MOST 1048576: true; the input reads as it did. -/
def officeJoinsUptoRow : OpenClaim := { program := "ytkbamkdgiglljaagreat", sum := "6725627f05c694a8af8a784b3a6b52fa96b92857b836dc8cf9e60fb6370aa31c", func := "gyttja/gyttjalaw08.OfficeJoins", spec := "officeJoins", unfollowed := true, recurses := true, apart := false, narrowed := true }
def OfficeJoinsUptoSaid : Prop := officeJoinsUptoRow.holds Tryz.pinned (OpenSpec.upto officeJoinsSpec)

end Rows
end Go.Proofs.YtkbamkdgiglljaaGreat
