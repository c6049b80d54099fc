/- Claims and worlds are equal to themselves, by the document. -/
import Derived.Test.YtlfknfknlcgfcaaGreatDoorZa
import Derived.Test.YtlfknfknlcgfcaaGreatDoorWo1
import Derived.Test.YtlfknfknlcgfcaaGreatDoorZa
namespace Go.Proofs.YtlfknfknlcgfcaaGreatDoor
open Go Go.Em
set_option maxRecDepth 100000
end Go.Proofs.YtlfknfknlcgfcaaGreatDoor
/- The claims behind choices: by the program, whatever the list of the world's claims is when it is empty. -/
namespace Go.Proofs.YtlfknfknlcgfcaaGreatDoor
open Go Go.Em
set_option maxRecDepth 100000
def AC (h : Heap) (d : D) (l : List Clm) : Prop := (l = [] ∧ d = .val (.slice none 0 0)) ∨ (l = [] ∧ ∃ k, d = .slr k 0 0 5 (some 0) ∧ h.get k = some (.cells 96 []) ∧ k < h.next) ∨ ∃ k, d = .slr k 0 l.length 5 none ∧ h.get k = some (.cells 96 (l.flatMap clC)) ∧ k < h.next
theorem AC.keep {h h' : Heap} {d : D} {l : List Clm} (g : AC h d l) (hn : h.next ≤ h'.next) (hk : ∀ k, k < h.next → h'.get k = h.get k) : AC h' d l := by
  rcases g with g | ⟨e, k, a, b, c⟩ | ⟨k, a, b, c⟩
  · exact .inl g
  · exact .inr (.inl ⟨e, k, a, by rw [hk k c]; exact b, by omega⟩)
  · exact .inr (.inr ⟨k, a, by rw [hk k c]; exact b, by omega⟩)
theorem AC.frz {h : Heap} {d : D} {l : List Clm} (g : AC h d l) : Fz h d l := by
  rcases g with ⟨rfl, rfl⟩ | ⟨rfl, k, rfl, g, _⟩ | ⟨k, rfl, g, _⟩
  · exact ⟨[], rfl⟩
  · exact Fz.of g rfl (by simp)
  · exact Fz.of g rfl (List.take_of_length_le (by rw [cells_len]; omega))
theorem cells_i (n : Int) : (D.int n).cells = [D.int n] := rfl
theorem cells_s (z : Bool) (l : List D) : (D.sl z l).cells = [D.sl z l] := rfl
theorem cells_a (l : List D) : (D.agg l).cells = l := rfl
end Go.Proofs.YtlfknfknlcgfcaaGreatDoor
/- The claims behind choices, by the program: all lists of claims. -/
namespace Go.Proofs.YtlfknfknlcgfcaaGreatDoor
open Go Go.Em
set_option maxRecDepth 100000
structure Chs (w : Wld) (cs : List Int) : Prop where
  le : cs.length ≤ w.qs.length
  ok : (w.qs.zip cs).all okCh = true
  c4 : claimsF w ≤ 400
  l6 : cs.length ≤ 1000
theorem Chs.cl {w : Wld} {cs : List Int} (c : Chs w cs) : w.cl.length ≤ 400 := by
  have := up_le w cs 0
  rw [up_zero] at this
  exact Nat.le_trans this c.c4
theorem one_s (z : Bool) (l : List D) : (D.sl z l).one = true := rfl
end Go.Proofs.YtlfknfknlcgfcaaGreatDoor
/- The claims behind choices, by the program, for all worlds. -/
namespace Go.Proofs.YtlfknfknlcgfcaaGreatDoor
open Go Go.Em
set_option maxRecDepth 100000
end Go.Proofs.YtlfknfknlcgfcaaGreatDoor
