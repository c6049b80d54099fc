/- Readings of rows, by the document. -/
import Derived.Test.YtdljcjbghinhiaaDoorRead
namespace Go.Proofs.YtdljcjbghinhiaaDoor
open Go Go.Em
set_option maxRecDepth 100000
theorem block3 {o : Option (Ex × St)} {a b c : Nat} {k : St → Option (Ex × St)} {P Q : Ex → St → Prop} (h : Res o P) (hk : ∀ x s, P x s → Res (andThen (blockK a (blockK b (blockK c (some (x, s))))) k) Q) : Res (andThen (blockK a (blockK b (blockK c o))) k) Q := by
  obtain ⟨x, s, rfl, p⟩ := h; exact hk x s p
theorem rowN_eq (picks : List Int) (taken : Nat) (r : Rw) (hv : (natF r).valid = true) (hc : (natF r).choice = true) : (if picks = [] then 0 else picks.getD (taken % picks.length) 0) % ((natF r).hi - (natF r).lo + 1) = rowN picks taken r := by
  have := lo_hi r hv
  unfold rowN pickF
  rw [if_pos hc]
  by_cases hp : picks = []
  · simp [hp]
  · rw [if_neg hp, if_neg (by simp [hp]; omega)]
def RR (picks : List Int) (l : List Rw) (k : Nat) (s : St) : Prop := ∃ (x : Env 104) (h : Heap) (i taken : Nat) (d : D) (acc : List Int), s = ⟨x.l, h, []⟩ ∧ i + k = l.length ∧ x.v 0 = rowsD l ∧ x.v 1 = intsD picks ∧ x.v 11 = D.int i ∧ x.v 10 = D.int taken ∧ x.v 9 = d ∧
  Gl h d acc ∧ acc.length ≤ 9000 * i ∧ taken ≤ i ∧ readF picks 0 l = acc ++ readF picks taken (l.drop i) ∧ h.Fr ∧ 1 < h.next
end Go.Proofs.YtdljcjbghinhiaaDoor
