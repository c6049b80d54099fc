/- Whatever rows and numbers it is called with, the code of SheetBounds returns true. -/
import Derived.Test.YtdljcjbghinhiaaDoorBounds
namespace Go.Proofs.YtdljcjbghinhiaaDoor
open Go Go.Em
set_option maxRecDepth 100000
theorem call_gl {h : Heap} {d : D} {T : List Int} (g : Gl h d T) {f : FuncId} {R : Rc} (hs : pg.sh f = false) (l : List Rw) {o : Out} (x : pureCall R f [rowsD l, intsD T] = some o) : ∃ h', call pg R f [rowsD l, d] h = some (o, h') := by
  obtain ⟨ks, hz⟩ := g.frozen 22
  have hr : frz h depth (rowsD l) = some (rowsD l, []) := frz_canon (by simp [rowsD, canonL_map rowD (fun _ => rfl) l])
  have hz' : frz h depth d = some (intsD T, ks) := hz
  have hall : each (frz h depth) [rowsD l, d] = some ([rowsD l, intsD T], ks) := by
    unfold each; rw [hr]; unfold each; rw [hz']; simp [each]
  refine ⟨(if ks.isEmpty || o.d.flat then h else h.kill ks), ?_⟩
  unfold call
  rw [hs, hall]
  simp only [x, Bool.false_eq_true, if_false, Option.map_some]
theorem takeF_cons (left : Int) (r : Rw) (l : List Rw) : takeF left (r :: l) = if (natF r).choice = true then moreF left r :: takeF (left - moreF left r) l else takeF (left - moreF left r) l := rfl
theorem leftF_cons (left : Int) (r : Rw) (l : List Rw) : leftF left (r :: l) = leftF (left - moreF left r) l := rfl
def BDI (L : List Rw) (W left0 : Int) (k : Nat) (s : St) : Prop := ∃ (x : Env 152) (h : Heap) (i : Nat) (d : D) (acc : List Int) (left : Int), s = ⟨x.l, h, []⟩ ∧ i + k = L.length ∧ x.v 0 = rowsD L ∧ x.v 7 = D.bool true ∧ x.v 13 = D.int W ∧ x.v 14 = D.int left ∧ x.v 15 = d ∧ x.v 16 = D.int i ∧
  Gl h d acc ∧ (0 ≤ left ∧ left ≤ 100000) ∧ acc ++ takeF left (L.drop i) = takeF left0 L ∧ leftF left (L.drop i) = leftF left0 L ∧ h.Fr ∧ 1 < h.next ∧ acc.length ≤ i
end Go.Proofs.YtdljcjbghinhiaaDoor
