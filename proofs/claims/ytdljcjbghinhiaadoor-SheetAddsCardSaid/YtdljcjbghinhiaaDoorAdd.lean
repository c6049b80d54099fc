/- Rows behind rows: what adds up. -/
import Derived.Test.YtdljcjbghinhiaaDoorBounds
namespace Go.Proofs.YtdljcjbghinhiaaDoor
open Go Go.Em
set_option maxRecDepth 100000
theorem okAll_app (a b : List Rw) : okAll (a ++ b) = (okAll a && okAll b) := by simp [okAll]
theorem nats_app {a b : List Rw} (ha : (natsF a).2 = 0) (hb : (natsF b).2 = 0) (h1 : a.length ≤ 60) (h2 : b.length ≤ 60) : (natsF (a ++ b)).2 = if 100000 < hiSum a + hiSum b then 2 else 0 := by
  unfold natsF
  rw [if_neg (by simp; omega), if_neg (by rw [okAll_app, ok_of ha, ok_of hb]; decide), hiSum_app]
  split <;> rfl
theorem zF_app (n : Nat) : ∀ (l m : List Int), n ≤ zF l → n ≤ zF (l ++ m)
  | [], m, h => by
    have : n = 0 := by simpa [zF] using h
    omega
  | a :: l, m, h => by
    rw [List.cons_append]
    rw [zF_cons] at h ⊢
    split at h
    · rename_i ha
      rw [if_pos ha]
      cases n with
      | zero => omega
      | succ n =>
        have := zF_app n l m (by omega)
        omega
    · omega
theorem rd_app : ∀ (a b : List Rw) (l m : List Int), okAll a = true → RdF a l → RdF b m → RdF (a ++ b) (l ++ m)
  | [], b, l, m, _, h, hb => by
    have : l = [] := h
    subst this; exact hb
  | r :: a, b, l, m, hv, h, hb => by
    simp only [okAll, List.all_cons, Bool.and_eq_true] at hv
    have ih := fun l h => rd_app a b l m hv.2 h hb
    rw [List.cons_append]
    rw [rd_cons] at h ⊢
    by_cases c1 : r.k = 1 ∨ r.k = 5
    · rw [if_pos c1] at h ⊢
      exact ih l h
    rw [if_neg c1] at h ⊢
    by_cases c2 : r.k = 4 ∨ r.k = 6
    · rw [if_pos c2] at h ⊢
      obtain ⟨n, h1, h2, h3⟩ := h
      have hz := zF_le l
      exact ⟨n, h1, zF_app n l m h2, by rw [List.drop_append_of_le_length (by omega)]; exact ih _ h3⟩
    rw [if_neg c2] at h ⊢
    by_cases c3 : r.k = 2
    · rw [if_pos c3] at h ⊢
      obtain ⟨zs, rfl, h3⟩ := h
      exact ⟨zs ++ m, rfl, ih _ h3⟩
    · rw [if_neg c3] at h ⊢
      rcases h with ⟨zs, rfl, h3⟩ | ⟨zs, rfl, h3⟩
      · exact .inl ⟨zs ++ m, rfl, ih _ h3⟩
      · exact .inr ⟨zs ++ m, rfl, ih _ h3⟩
theorem thSum_app (a b : List Rw) : thSum (a ++ b) = thSum a + thSum b := by simp [thSum]
theorem lay_two {l : List Rw} (h : (natsF l).2 = 0) : (layF l).2 = if (l.any fun r => (natF r).hides) = true then 13 else 0 := by
  unfold layF
  rw [if_neg (by simpa using h), nats_ok h, List.any_map]
  have : (Nt.hides ∘ natF) = fun r => (natF r).hides := rfl
  rw [this]
  split <;> rfl
theorem len_app {a b : List Rw} (ha : (natsF a).2 = 0) (hb : (natsF b).2 = 0) (hab : (natsF (a ++ b)).2 = 0) :
    (((lenF (a ++ b)).2 = 0) ↔ ((lenF a).2 = 0 ∧ (lenF b).2 = 0)) ∧ ((lenF (a ++ b)).2 = 0 → (lenF (a ++ b)).1 = (lenF a).1 + (lenF b).1) := by
  have e : ∀ l, (lenF l).2 = (layF l).2 := fun l => by
    unfold lenF
    split
    · rename_i h; exact h.symm
    · rfl
  have e1 : ((lenF (a ++ b)).2 = 0) ↔ ((lenF a).2 = 0 ∧ (lenF b).2 = 0) := by
    rw [e, e, e, lay_two ha, lay_two hb, lay_two hab, List.any_append]
    cases (a.any fun r => (natF r).hides) <;> cases (b.any fun r => (natF r).hides) <;> simp
  refine ⟨e1, fun h => ?_⟩
  obtain ⟨h1, h2⟩ := e1.1 h
  rw [e] at h h1 h2
  unfold lenF
  rw [if_pos h, if_pos h1, if_pos h2]
  exact thSum_app a b
end Go.Proofs.YtdljcjbghinhiaaDoor
