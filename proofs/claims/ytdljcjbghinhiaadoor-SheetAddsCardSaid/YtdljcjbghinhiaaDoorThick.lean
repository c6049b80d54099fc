/- The thicknesses of rows. -/
import Derived.Test.YtdljcjbghinhiaaDoorLen
namespace Go.Proofs.YtdljcjbghinhiaaDoor
open Go Go.Em
set_option maxRecDepth 100000
def layers (l : List Rw) : List Int := l.flatMap fun r => (natF r).layers
theorem layers_snoc (l : List Rw) (r : Rw) : layers (l ++ [r]) = layers l ++ (natF r).layers := by simp [layers]
theorem layers_shape (r : Rw) : (natF r).layers = [] ∨ (∃ a, (natF r).layers = [a]) ∨ ∃ a b, (natF r).layers = [a, b] := by
  unfold natF
  repeat' split
  all_goals simp
theorem layers_len : ∀ l : List Rw, (layers l).length ≤ 2 * l.length
  | [] => by simp [layers]
  | r :: l => by
    have h1 := layers_len l
    have h2 : (natF r).layers.length ≤ 2 := by rcases layers_shape r with h | ⟨a, h⟩ | ⟨a, b, h⟩ <;> simp [h]
    have e : layers (r :: l) = (natF r).layers ++ layers l := by simp [layers]
    rw [e, List.length_append, List.length_cons]
    omega
def TI (l : List Rw) (k : Nat) (s : St) : Prop := ∃ (x : Env 29) (h : Heap) (i : Nat) (d : D), s = ⟨x.l, h, []⟩ ∧ i + k = l.length ∧ x.v 17 = natsD (l.map natF) ∧ x.v 18 = D.int l.length ∧ x.v 19 = D.int i ∧ x.v 6 = d ∧ Gl h d (layers (l.take i)) ∧ h.Fr ∧ 1 < h.next
def thickL (l : List Rw) : List Int := if (layF l).2 = 0 then layers l else []
end Go.Proofs.YtdljcjbghinhiaaDoor
/- The thicknesses of rows, by the document. -/
namespace Go.Proofs.YtdljcjbghinhiaaDoor
open Go Go.Em
set_option maxRecDepth 100000
def TJ (l : List Rw) (k : Nat) (s : St) : Prop := ∃ (x : Env 53) (h : Heap) (i : Nat) (d : D), s = ⟨x.l, h, []⟩ ∧ i + k = l.length ∧ x.v 0 = rowsD l ∧ x.v 7 = D.int i ∧ x.v 6 = d ∧ Gl h d (layers (l.take i)) ∧ h.Fr ∧ 1 < h.next
theorem lenF_err (l : List Rw) : (lenF l).2 = (layF l).2 := by unfold lenF; split <;> simp_all
end Go.Proofs.YtdljcjbghinhiaaDoor
