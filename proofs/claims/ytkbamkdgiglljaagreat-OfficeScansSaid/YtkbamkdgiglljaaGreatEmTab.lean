/- A table of answers in front of the evaluator: it changes nothing, and what is in it the kernel need not run again. -/
import Derived.Test.YtkbamkdgiglljaaGreatEmZ
noncomputable section
namespace Go.Em
open Go
mutual
def same : D → D → Bool
  | .val (.int k a), .val (.int k' b) => decide (k = k') && decide (a = b)
  | .val (.bool a), .val (.bool b) => a == b
  | .agg l, .agg m => sameL l m
  | .sl false l, .sl false m => sameL l m
  | .map l, .map m => sameE l m
  | _, _ => false
def sameE : List (D × D) → List (D × D) → Bool
  | [], [] => true
  | (a, x) :: l, (b, y) :: m => sameE l m && same a b && same x y
  | _, _ => false
def sameL : List D → List D → Bool
  | [], [] => true
  | a :: l, b :: m => sameL l m && same a b
  | _, _ => false
end
mutual
theorem same_eq : ∀ {a b : D}, same a b = true → a = b
  | .val (.int k a), .val (.int k' b), h => by
    simp only [same, Bool.and_eq_true, decide_eq_true_eq] at h
    rw [h.1, h.2]
  | .val (.bool a), .val (.bool b), h => by
    simp only [same, beq_iff_eq] at h
    rw [h]
  | .agg l, .agg m, h => by
    simp only [same] at h
    rw [sameL_eq h]
  | .sl false l, .sl false m, h => by
    simp only [same] at h
    rw [sameL_eq h]
  | .map l, .map m, h => by
    simp only [same] at h
    rw [sameE_eq h]
theorem sameE_eq : ∀ {l m : List (D × D)}, sameE l m = true → l = m
  | [], [], _ => rfl
  | (a, x) :: l, (b, y) :: m, h => by
    simp only [sameE, Bool.and_eq_true] at h
    rw [same_eq h.2, same_eq h.1.2, sameE_eq h.1.1]
theorem sameL_eq : ∀ {l m : List D}, sameL l m = true → l = m
  | [], [], _ => rfl
  | a :: l, b :: m, h => by
    simp only [sameL, Bool.and_eq_true] at h
    rw [same_eq h.2, sameL_eq h.1]
end
def look : List (FuncId × List D × D) → FuncId → List D → Option D
  | [], _, _ => none
  | e :: l, f, args => if (Nat.beq e.1 f && sameL e.2.1 args) = true then some e.2.2 else look l f args
theorem look_mem : ∀ {T : List (FuncId × List D × D)} {f : FuncId} {args : List D} {d : D}, look T f args = some d → (f, args, d) ∈ T
  | [], _, _, _, h => by cases h
  | (g, as', d') :: l, f, args, d, h => by
    unfold look at h
    split at h
    · rename_i hc
      simp only [Bool.and_eq_true] at hc
      cases h
      rw [Nat.eq_of_beq_eq_true hc.1, sameL_eq hc.2]
      exact List.mem_cons_self ..
    · exact List.mem_cons_of_mem _ (look_mem h)
def tabFn (T : List (FuncId × List D × D)) (R : Rc) (f : FuncId) (args : List D) (h : Heap) : Option (Out × Heap) := match h with
  | ⟨[], 0, []⟩ => (match look T f args with
    | some d => some (.ret d, ((R.fn f args .empty).map fun p => p.2).getD .empty)
    | none => R.fn f args h)
  | h => R.fn f args h
def tab (T : List (FuncId × List D × D)) (R : Rc) : Rc := ⟨tabFn T R, R.yl, R.lp, R.df⟩
theorem tab_eq {T : List (FuncId × List D × D)} {R : Rc} (hT : ∀ e, e ∈ T → (R.fn e.1 e.2.1 .empty).map (fun p => p.1) = some (.ret e.2.2)) : tab T R = R := by
  have : tabFn T R = R.fn := by
    funext f args h
    unfold tabFn
    split
    · split
      · rename_i d hl
        have h1 := hT _ (look_mem hl)
        simp only [Option.map_eq_some_iff] at h1
        obtain ⟨⟨o, hp⟩, h1, h2⟩ := h1
        simp only at h2
        subst h2
        rw [h1]
        exact h1.symm
      · rfl
    · rfl
  unfold tab
  rw [this]
def rcT (pg : Pg) (T : List (FuncId × List D × D)) (R0 : Rc) : Nat → Rc
  | 0 => R0
  | k + 1 => tab T ⟨fnBody pg (rcT pg T R0 k), yieldEv pg (rcT pg T R0 k), lpBody (rcT pg T R0 k), dfBody pg (rcT pg T R0 k)⟩
theorem rcT_eq {pg : Pg} {T : List (FuncId × List D × D)} {b : Nat} (hT : ∀ n, b ≤ n → ∀ e, e ∈ T → ((rc pg n).fn e.1 e.2.1 .empty).map (fun p => p.1) = some (.ret e.2.2)) : ∀ k, rcT pg T (rc pg b) k = rc pg (b + k)
  | 0 => rfl
  | k + 1 => by
    show tab T ⟨fnBody pg (rcT pg T (rc pg b) k), yieldEv pg (rcT pg T (rc pg b) k), lpBody (rcT pg T (rc pg b) k), dfBody pg (rcT pg T (rc pg b) k)⟩ = _
    rw [rcT_eq hT k]
    exact tab_eq (R := rc pg (b + k + 1)) (hT (b + k + 1) (by omega))
end Go.Em
