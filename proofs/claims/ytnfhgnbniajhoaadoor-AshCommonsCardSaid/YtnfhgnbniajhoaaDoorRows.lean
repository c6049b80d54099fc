/-
  NARROWER THAN 'FOR EVERY INPUT', by the rows' own cells (each row's printed sentence says how): AshCommons: laid · AshCompares: laid · AshClaims: laid.
  DERIVED. THE GIVEN ROWS OF THIS SEAT. 3 by the template 'for every input the law returns true; each argument reads behind the call as it read before'; 0 by the template 'total and deterministic' (their statements: YtnfhgnbniajhoaaDoorTotals.lean).
  GIVEN WITH THE SEED: the statements are not yours to turn. If you find one false, say at which input.
  Laid BY PROGRAM, IN A SANDBOX (cutbox-rows.mjs): the forced cells as the released guide's own fill.sh prints them over the translation 31a4d679d17c2d30… (all of the seat's roots in one cut). By AI agents, Wed Nov 11 2026. No macro, syntax, notation, axiom, sorry.
-/
import Derived.Test.YtnfhgnbniajhoaaDoorChecked
import GoSem.Claim
import GoSem.ClaimJoined
import GoSem.ClaimMapViews
import Derived.JoinedTies
import Derived.KernelRfl
namespace Go.Proofs.YtnfhgnbniajhoaaDoor
/- THE CELL 'sum', in the pinned program and in every row, IS THE sha256 OF THE DUMP (.gsa) THAT YtnfhgnbniajhoaaDoorProg.lean LOADS. Nothing in Lean hashes anything: it is a label: what it is worth is what the hold of that sum in a sandbox is worth. -/
noncomputable def Tryd.pinned : Pinned := { name := "ytnfhgnbniajhoaadoor", sum := "31a4d679d17c2d3010cff53ba6416e83d4b82bf64815c329c9f7fbf8b338bded", checked := Tryd.checked }
namespace Rows
def none {H : Type} : Left H := { results := [], args := [] }

/- WHAT THE LISTED PACKAGE-LEVEL VARIABLES READ AS WHEN THE CALL BEGINS. Each datum BY PROGRAM (the guide's laid-datum.mjs) off the statement by which the dump's own 'gosem.cut.vars' lays the variable. In a bare row this is a premise. The card (YtnfhgnbniajhoaaDoorCards.lean) ties it to the program's text. -/
def laid_gyttja_ash_noValues {H : Type} : DataW H := .agg [.lit (.int .i64 1), .lit (.int .i64 0)]

/-- 'gyttjalaw04.AshCommons': WHATEVER THE INPUT: true; the input reads as it did. -/
def ashCommonsSpec : ChangeSpec := { name := "ashCommons", fn := fun _ => fun
  | [d] => { results := [.lit (.bool true)], args := [d] }
  | _ => none }
def ashCommonsRow : OpenClaim := { program := "ytnfhgnbniajhoaadoor", sum := "31a4d679d17c2d3010cff53ba6416e83d4b82bf64815c329c9f7fbf8b338bded", func := "gyttja/gyttjalaw04.AshCommons", spec := "ashCommons", unfollowed := true, recurses := true, named := ["gyttja/ash.noValues"], apart := false, laid := [("gyttja/ash.noValues", laid_gyttja_ash_noValues)] }
def AshCommonsSaid : Prop := ashCommonsRow.holds Tryd.pinned (OpenSpec.ofChange ashCommonsSpec)

/-- ITS FALSE NEIGHBOUR: 'it returns false'. Refute it at one input. -/
def ashCommonsWrong : ChangeSpec := { name := "ashCommons", fn := fun _ => fun
  | [d] => { results := [.lit (.bool false)], args := [d] }
  | _ => none }
def AshCommonsWrongFalsely : Prop := ashCommonsRow.holds Tryd.pinned (OpenSpec.ofChange ashCommonsWrong)

/-- 'gyttjalaw04.AshCompares': WHATEVER THE INPUT: true; the input reads as it did. -/
def ashComparesSpec : ChangeSpec := { name := "ashCompares", fn := fun _ => fun
  | [d1, d2, d3] => { results := [.lit (.bool true)], args := [d1, d2, d3] }
  | _ => none }
def ashComparesRow : OpenClaim := { program := "ytnfhgnbniajhoaadoor", sum := "31a4d679d17c2d3010cff53ba6416e83d4b82bf64815c329c9f7fbf8b338bded", func := "gyttja/gyttjalaw04.AshCompares", spec := "ashCompares", unfollowed := true, recurses := true, named := ["gyttja/ash.noValues"], apart := false, laid := [("gyttja/ash.noValues", laid_gyttja_ash_noValues)] }
def AshComparesSaid : Prop := ashComparesRow.holds Tryd.pinned (OpenSpec.ofChange ashComparesSpec)

/-- ITS FALSE NEIGHBOUR: 'it returns false'. Refute it at one input. -/
def ashComparesWrong : ChangeSpec := { name := "ashCompares", fn := fun _ => fun
  | [d1, d2, d3] => { results := [.lit (.bool false)], args := [d1, d2, d3] }
  | _ => none }
def AshComparesWrongFalsely : Prop := ashComparesRow.holds Tryd.pinned (OpenSpec.ofChange ashComparesWrong)

/-- 'gyttjalaw04.AshClaims': WHATEVER THE INPUT: true; the input reads as it did. -/
def ashClaimsSpec : ChangeSpec := { name := "ashClaims", fn := fun _ => fun
  | [d1, d2] => { results := [.lit (.bool true)], args := [d1, d2] }
  | _ => none }
def ashClaimsRow : OpenClaim := { program := "ytnfhgnbniajhoaadoor", sum := "31a4d679d17c2d3010cff53ba6416e83d4b82bf64815c329c9f7fbf8b338bded", func := "gyttja/gyttjalaw04.AshClaims", spec := "ashClaims", unfollowed := true, recurses := true, named := ["gyttja/ash.noValues"], apart := false, laid := [("gyttja/ash.noValues", laid_gyttja_ash_noValues)] }
def AshClaimsSaid : Prop := ashClaimsRow.holds Tryd.pinned (OpenSpec.ofChange ashClaimsSpec)

/-- ITS FALSE NEIGHBOUR: 'it returns false'. Refute it at one input. -/
def ashClaimsWrong : ChangeSpec := { name := "ashClaims", fn := fun _ => fun
  | [d1, d2] => { results := [.lit (.bool false)], args := [d1, d2] }
  | _ => none }
def AshClaimsWrongFalsely : Prop := ashClaimsRow.holds Tryd.pinned (OpenSpec.ofChange ashClaimsWrong)

/- THE SECOND FORM. 'bulk': how many values and letters a reading holds, each counted each time it is reached (what is shared counts as often as it is met; a slice's spare places count too). A statement '..UptoSaid' is the law's where the arguments, and the package variables that the reading takes, are together of bulk at most 1048576: NARROWER than '..Said'. Prove '..Said' where nothing that the law and all that it calls make is longer than what came in: it says more and counts as full. Else prove '..UptoSaid'. A law counts once. -/
mutual
def uptoBulk {H : Type} : DataW H → Nat
  | .lit (.string bytes) => bytes.length + 1
  | .lit _ => 1
  | .nil => 1
  | .ptr d => uptoBulk d + 1
  | .slice elems spare => uptoBulkAll elems + uptoBulkAll spare + 1
  | .agg parts => uptoBulkAll parts + 1
  | .iface _ d => uptoBulk d + 1
  | .map entries => uptoBulkEntries entries + 1
  | .held _ => 1
def uptoBulkAll {H : Type} : List (DataW H) → Nat
  | [] => 0
  | d :: r => uptoBulk d + uptoBulkAll r
def uptoBulkEntries {H : Type} : List (Lit × DataW H) → Nat
  | [] => 0
  | x :: r => uptoBulkEntry x + uptoBulkEntries r
def uptoBulkEntry {H : Type} : Lit × DataW H → Nat
  | (.string bytes, d) => bytes.length + uptoBulk d + 1
  | (_, d) => uptoBulk d + 1
 end
def uptoSmall : (H : Type) → List (DataW H) → Bool := fun _ ds => decide (uptoBulkAll ds ≤ 1048576)
def OpenSpec.upto (s : _root_.Go.ChangeSpec) : _root_.Go.OpenSpec := { _root_.Go.OpenSpec.ofChange s with cond := some uptoSmall }

/-- 'gyttjalaw04.AshCommons', WHERE WHAT IT READS IS OF BULK AT MOST 1048576: true; the input reads as it did. -/
def ashCommonsUptoRow : OpenClaim := { program := "ytnfhgnbniajhoaadoor", sum := "31a4d679d17c2d3010cff53ba6416e83d4b82bf64815c329c9f7fbf8b338bded", func := "gyttja/gyttjalaw04.AshCommons", spec := "ashCommons", unfollowed := true, recurses := true, named := ["gyttja/ash.noValues"], apart := false, laid := [("gyttja/ash.noValues", laid_gyttja_ash_noValues)], narrowed := true }
def AshCommonsUptoSaid : Prop := ashCommonsUptoRow.holds Tryd.pinned (OpenSpec.upto ashCommonsSpec)

/-- 'gyttjalaw04.AshCompares', WHERE WHAT IT READS IS OF BULK AT MOST 1048576: true; the input reads as it did. -/
def ashComparesUptoRow : OpenClaim := { program := "ytnfhgnbniajhoaadoor", sum := "31a4d679d17c2d3010cff53ba6416e83d4b82bf64815c329c9f7fbf8b338bded", func := "gyttja/gyttjalaw04.AshCompares", spec := "ashCompares", unfollowed := true, recurses := true, named := ["gyttja/ash.noValues"], apart := false, laid := [("gyttja/ash.noValues", laid_gyttja_ash_noValues)], narrowed := true }
def AshComparesUptoSaid : Prop := ashComparesUptoRow.holds Tryd.pinned (OpenSpec.upto ashComparesSpec)

/-- 'gyttjalaw04.AshClaims', WHERE WHAT IT READS IS OF BULK AT MOST 1048576: true; the input reads as it did. -/
def ashClaimsUptoRow : OpenClaim := { program := "ytnfhgnbniajhoaadoor", sum := "31a4d679d17c2d3010cff53ba6416e83d4b82bf64815c329c9f7fbf8b338bded", func := "gyttja/gyttjalaw04.AshClaims", spec := "ashClaims", unfollowed := true, recurses := true, named := ["gyttja/ash.noValues"], apart := false, laid := [("gyttja/ash.noValues", laid_gyttja_ash_noValues)], narrowed := true }
def AshClaimsUptoSaid : Prop := ashClaimsUptoRow.holds Tryd.pinned (OpenSpec.upto ashClaimsSpec)

end Rows
end Go.Proofs.YtnfhgnbniajhoaaDoor
