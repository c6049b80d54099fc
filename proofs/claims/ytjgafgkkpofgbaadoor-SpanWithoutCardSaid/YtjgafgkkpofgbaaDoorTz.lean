/- The lowest bit of a word, by package math/bits. -/
import Derived.Test.YtjgafgkkpofgbaaDoorPg
import Derived.Test.YtjgafgkkpofgbaaDoorEmBitV
import Derived.Test.YtjgafgkkpofgbaaDoorClaim
import Derived.Test.YtjgafgkkpofgbaaDoorBnd
namespace Go.Proofs.YtjgafgkkpofgbaaDoor
open Go Go.Em
set_option maxRecDepth 100000
@[simp] theorem rd_bru (e : List D) : rd pg.gl e (.g 0) = .eref bruD := rfl
end Go.Proofs.YtjgafgkkpofgbaaDoor
/- The marks of a set, in order, by the program. -/
namespace Go.Proofs.YtjgafgkkpofgbaaDoor
open Go Go.Em
set_option maxRecDepth 100000
/-- A list of numbers that grows by append. -/
def GL (h : Heap) (d : D) (l : List Int) : Prop := (l = [] ∧ d = .val (.slice none 0 0)) ∨ ∃ k, d = .slr k 0 l.length 1 none ∧ h.get k = some (.cells 3 (l.map D.int)) ∧ k < h.next
theorem GL.keep {h h' : Heap} {d : D} {l : List Int} (g : GL h d l) (hn : h.next ≤ h'.next) (hk : ∀ k, k < h.next → h'.get k = h.get k) : GL h' d l := by
  rcases g with g | ⟨k, a, b, c⟩
  · exact .inl g
  · exact .inr ⟨k, a, by rw [hk k c]; exact b, by omega⟩
theorem GL.frz {h : Heap} {d : D} {l : List Int} (g : GL h d l) : ∃ ks, frz h depth d = some (.sl false (l.map D.int), ks) := by
  rcases g with ⟨rfl, rfl⟩ | ⟨k, rfl, g, _⟩
  · exact ⟨[], rfl⟩
  · refine ⟨k :: [], ?_⟩
    show Go.Em.frz h (23 + 1) _ = _
    simp [g]
    have : ∀ l : List Int, chunk 1 l.length (l.map D.int) = l.map D.int := by
      intro l
      induction l with
      | nil => rfl
      | cons a l ih => simp [chunk, ih]
    have hc : ∀ n, n = l.length → (l.map D.int).take n = l.map D.int := fun n hn => List.take_of_length_le (by simp [hn])
    simp [this, hc]
end Go.Proofs.YtjgafgkkpofgbaaDoor
/- The marks of claims, by the program. -/
namespace Go.Proofs.YtjgafgkkpofgbaaDoor
open Go Go.Em
set_option maxRecDepth 100000
theorem call_sh {pg : Pg} {R : Rc} {f : FuncId} {args : List D} {h h' : Heap} {o : Out} (hs : pg.sh f = true) (x : R.fn f args h = some (o, h')) : call pg R f args h = some (o, h') := by
  simp [call, hs, x]
end Go.Proofs.YtjgafgkkpofgbaaDoor
/- The marks of claims, by the document's own function. -/
namespace Go.Proofs.YtjgafgkkpofgbaaDoor
open Go Go.Em
set_option maxRecDepth 100000
def intsD (l : List Int) : D := .sl false (l.map D.int)
theorem ints_canonL (l : List Int) : D.canonL (l.map D.int) = true := canonL_map D.int (fun _ => rfl) l
/-- A list of numbers, or nil: as a call sees it. -/
def IsInts (d : D) (l : List Int) : Prop := d = intsD l ∨ (l = [] ∧ d = .val (.slice none 0 0))
theorem IsInts.frz {d : D} {l : List Int} (h : IsInts d l) (v : Int) (hh : Heap) : each (Go.Em.frz hh depth) [d, D.int v] = some ([intsD l, D.int v], []) := by
  rcases h with rfl | ⟨rfl, rfl⟩
  · exact each_canon hh 23 _ (by simp [intsD, ints_canonL])
  · rfl
end Go.Proofs.YtjgafgkkpofgbaaDoor
/- Whether a list of claims is valid: by the program and by the document. -/
namespace Go.Proofs.YtjgafgkkpofgbaaDoor
open Go Go.Em
set_option maxRecDepth 100000
end Go.Proofs.YtjgafgkkpofgbaaDoor
/- Where a chain leads, and what it shows: by the program and by the document. -/
namespace Go.Proofs.YtjgafgkkpofgbaaDoor
open Go Go.Em
set_option maxRecDepth 100000
structure Stp where
  c : Int
  back : Bool
def stC (s : Stp) : List D := [D.int s.c, D.bool s.back]
def stD (s : Stp) : D := .agg (stC s)
def stsD (l : List Stp) : D := .sl false (l.map stD)
end Go.Proofs.YtjgafgkkpofgbaaDoor
/- Where a chain leads: the functions. -/
namespace Go.Proofs.YtjgafgkkpofgbaaDoor
open Go Go.Em
set_option maxRecDepth 100000
end Go.Proofs.YtjgafgkkpofgbaaDoor
