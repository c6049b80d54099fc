/- Sets of small numbers as the bits of words: the lowest bit, what is left without it, all of them in order. -/
import Derived.Test.YtkbamkdgiglljaaGreatEmZ
namespace Go.Em
end Go.Em
/- Marks of claims: put in one by one, and as the bits of words. -/
namespace Go.Em
def insF (l : List Int) (n : Int) : List Int := if n ∈ l then l else l.filter (fun x => decide (x < n)) ++ n :: l.filter (fun x => decide (n < x))
theorem insF_mem (l : List Int) (n x : Int) : x ∈ insF l n ↔ x ∈ l ∨ x = n := by
  unfold insF
  split
  · rename_i h
    constructor
    · exact .inl
    · rintro (h' | rfl) <;> assumption
  · rename_i h
    simp only [List.mem_append, List.mem_filter, List.mem_cons, decide_eq_true_eq]
    constructor
    · rintro (⟨a, _⟩ | rfl | ⟨a, _⟩)
      · exact .inl a
      · exact .inr rfl
      · exact .inl a
    · rintro (a | rfl)
      · rcases Int.lt_trichotomy x n with b | b | b
        · exact .inl ⟨a, b⟩
        · subst b; exact absurd a h
        · exact .inr (.inr ⟨a, b⟩)
      · exact .inr (.inl rfl)
def addF (W : List Nat) (m : Nat) : List Nat := W.set (m / 64) (W.getD (m / 64) 0 ||| 2 ^ (m % 64))
def hasF (W : List Nat) (m : Nat) : Bool := (W.getD (m / 64) 0).testBit (m % 64)
theorem addF_len (W : List Nat) (m : Nat) : (addF W m).length = W.length := by simp [addF]
theorem addF_lt {W : List Nat} (h : ∀ w ∈ W, w < 2 ^ 64) (m : Nat) : ∀ w ∈ addF W m, w < 2 ^ 64 := by
  intro w hw
  have hg : W.getD (m / 64) 0 < 2 ^ 64 := by
    rw [List.getD_eq_getElem?_getD]
    cases e : W[m / 64]? with
    | none => exact Nat.two_pow_pos 64
    | some x => exact h x (List.mem_of_getElem? e)
  rcases List.mem_or_eq_of_mem_set hw with h1 | rfl
  · exact h w h1
  · exact Nat.or_lt_two_pow hg (Nat.pow_lt_pow_right (by omega) (by omega))
theorem addF_has {W : List Nat} {m : Nat} (hm : m / 64 < W.length) (k : Nat) : hasF (addF W m) k = (hasF W k || decide (k = m)) := by
  unfold hasF addF
  simp only [List.getD_eq_getElem?_getD]
  by_cases h : m / 64 = k / 64
  · rw [h] at hm ⊢
    rw [List.getElem?_set_self hm]
    simp only [Option.getD_some, Nat.testBit_or, Nat.testBit_two_pow]
    congr 1
    by_cases e : k = m
    · subst e; simp
    · have : ¬ m % 64 = k % 64 := by omega
      simp [e, this]
  · rw [List.getElem?_set_ne h]
    have : ¬ k = m := by rintro rfl; exact h rfl
    simp [this]
structure Clm where
  a : Int
  b : Int
  lo : Int
  hi : Int
  by_ : Int
def marksF (l : List Clm) : List Int := l.foldl (fun m c => insF (insF m c.a) c.b) []
theorem marks_snoc (l : List Clm) (c : Clm) : marksF (l ++ [c]) = insF (insF (marksF l) c.a) c.b := by unfold marksF; rw [List.foldl_append]; rfl
def HasSet (W : List Nat) (l : List Clm) : Prop := W.length = 33 ∧ (∀ w ∈ W, w < 2 ^ 64) ∧ ∀ m : Nat, hasF W m = true ↔ ((m : Int) ∈ marksF l)
theorem HasSet.nil : HasSet (List.replicate 33 0) [] := by
  refine ⟨by simp, fun w hw => by rw [List.eq_of_mem_replicate hw]; omega, fun m => ?_⟩
  have : (List.replicate 33 0).getD (m / 64) 0 = 0 := by
    rw [List.getD_eq_getElem?_getD, List.getElem?_replicate]; split <;> rfl
  unfold hasF
  rw [this]; simp [marksF]
theorem HasSet.add {W : List Nat} {l : List Clm} (h : HasSet W l) {c : Clm} {a b : Nat} (ha : c.a = a) (hb : c.b = b) (ha' : a ≤ 2048) (hb' : b ≤ 2048) : HasSet (addF (addF W a) b) (l ++ [c]) := by
  obtain ⟨h1, h2, h3⟩ := h
  refine ⟨by rw [addF_len, addF_len, h1], addF_lt (addF_lt h2 a) b, fun m => ?_⟩
  rw [addF_has (by rw [addF_len, h1]; omega), addF_has (by rw [h1]; omega), marks_snoc, insF_mem, insF_mem, ← h3 m, ha, hb]
  simp only [Bool.or_eq_true, decide_eq_true_eq]
  constructor
  · rintro ((x | rfl) | rfl)
    · exact .inl (.inl x)
    · exact .inl (.inr rfl)
    · exact .inr rfl
  · rintro ((x | e) | e)
    · exact .inl (.inl x)
    · exact .inl (.inr (by omega))
    · exact .inr (by omega)
end Go.Em
