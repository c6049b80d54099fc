/- Sets of small numbers as the bits of words: the lowest bit, what is left without it, all of them in order. -/
namespace Go.Em
/-- The place of the lowest bit that is set. -/
theorem low_ex : ∀ w : Nat, 0 < w → ∃ k q, w = 2 ^ k * (2 * q + 1) := by
  intro w
  induction w using Nat.strongRecOn with
  | ind w ih =>
    intro h
    by_cases h2 : w % 2 = 1
    · exact ⟨0, w / 2, by simp; omega⟩
    · obtain ⟨k, q, e⟩ := ih (w / 2) (by omega) (by omega)
      refine ⟨k + 1, q, ?_⟩
      have : w = 2 * (w / 2) := by omega
      rw [this, e, Nat.pow_succ]
      simp only [Nat.mul_comm, Nat.mul_left_comm]
theorem low_bits {k q : Nat} (i : Nat) : (2 ^ k * (2 * q + 1)).testBit i = if i < k then false else if i = k then true else (2 * q + 1).testBit (i - k) := by
  have h := Nat.testBit_two_pow_mul_add (2 * q + 1) (b := 0) (i := k) (Nat.two_pow_pos k) i
  rw [Nat.add_zero] at h
  rw [h]
  by_cases h1 : i < k
  · simp [h1]
  · by_cases h2 : i = k
    · subst h2; simp
    · simp [h1, h2]
theorem pred_bits {k q : Nat} (i : Nat) : (2 ^ k * (2 * q + 1) - 1).testBit i = if i < k then true else if i = k then false else (2 * q + 1).testBit (i - k) := by
  have e : 2 ^ k * (2 * q + 1) - 1 = 2 ^ k * (2 * q) + (2 ^ k - 1) := by
    have := Nat.two_pow_pos k
    rw [Nat.mul_add, Nat.mul_one]; omega
  rw [e, Nat.testBit_two_pow_mul_add (2 * q) (by have := Nat.two_pow_pos k; omega)]
  by_cases h1 : i < k
  · simp [h1]
  · by_cases h2 : i = k
    · subst h2; simp
    · obtain ⟨j, hj⟩ : ∃ j, i - k = j + 1 := ⟨i - k - 1, by omega⟩
      rw [if_neg h1, if_neg h1, if_neg h2, hj]
      simp only [Nat.testBit_succ]
      congr 1; omega
/-- A word, and its lowest bit. -/
theorem low_bit {w : Nat} (h : 0 < w) : ∃ k, w.testBit k = true ∧ (∀ i, i < k → w.testBit i = false) ∧ (∀ i, (w - 1).testBit i = if i < k then true else if i = k then false else w.testBit i) := by
  obtain ⟨k, q, rfl⟩ := low_ex w h
  refine ⟨k, by rw [low_bits]; simp, fun i hi => by rw [low_bits, if_pos hi], fun i => ?_⟩
  rw [pred_bits, low_bits]
  by_cases h1 : i < k
  · simp [h1]
  · by_cases h2 : i = k
    · simp [h2]
    · simp [h1, h2]
theorem bit_lt {w k n : Nat} (hw : w < 2 ^ n) (h : w.testBit k = true) : k < n := by
  apply Decidable.byContradiction; intro hn
  have : w < 2 ^ k := Nat.lt_of_lt_of_le hw (Nat.pow_le_pow_right (by omega) (by omega))
  rw [Nat.testBit_lt_two_pow this] at h; cases h
theorem and_neg {w k : Nat} (h0 : 0 < w) (hw : w < 2 ^ 64) (h1 : w.testBit k = true) (h2 : ∀ i, i < k → w.testBit i = false) (h3 : ∀ i, (w - 1).testBit i = if i < k then true else if i = k then false else w.testBit i) :
    w &&& (2 ^ 64 - w) = 2 ^ k := by
  have hk := bit_lt hw h1
  apply Nat.eq_of_testBit_eq
  intro i
  have e : 2 ^ 64 - w = 2 ^ 64 - ((w - 1) + 1) := by omega
  rw [Nat.testBit_and, e, Nat.testBit_two_pow_sub_succ (by omega), h3, Nat.testBit_two_pow]
  by_cases a : i < k
  · have : ¬ k = i := by omega
    simp [h2 i a, this]
  · by_cases b : i = k
    · subst b; simp [h1, hk]
    · have : ¬ k = i := by omega
      simp only [a, b, this, if_false, decide_false]
      cases w.testBit i <;> simp
theorem and_pred {w k : Nat} (h1 : w.testBit k = true) (h2 : ∀ i, i < k → w.testBit i = false) (h3 : ∀ i, (w - 1).testBit i = if i < k then true else if i = k then false else w.testBit i) (i : Nat) :
    (w &&& (w - 1)).testBit i = (w.testBit i && decide (k < i)) := by
  rw [Nat.testBit_and, h3]
  by_cases a : i < k
  · simp [h2 i a]
  · by_cases b : i = k
    · subst b; simp
    · have : k < i := by omega
      simp [a, b, this]
/-- The bits of a word from t on, in order. -/
def bitsFrom (w t : Nat) : List Nat := (List.range 64).filter fun b => decide (t ≤ b) && w.testBit b
theorem range_filter (p : Nat → Bool) (k : Nat) (hk : p k = true) (hb : ∀ i, i < k → p i = false) : ∀ n, k < n → (List.range n).filter p = k :: (List.range n).filter (fun i => decide (k < i) && p i) := by
  intro n
  induction n with
  | zero => intro h; omega
  | succ n ih =>
    intro h
    rw [List.range_succ, List.filter_append, List.filter_append]
    by_cases e : n = k
    · subst e
      have h1 : (List.range n).filter p = [] := by
        rw [List.filter_eq_nil_iff]; intro i hi; rw [hb i (List.mem_range.1 hi)]; simp
      have h2 : (List.range n).filter (fun i => decide (n < i) && p i) = [] := by
        rw [List.filter_eq_nil_iff]; intro i hi; have := List.mem_range.1 hi
        have : ¬ n < i := by omega
        simp [this]
      rw [h1, h2]; simp [hk]
    · rw [ih (by omega)]
      have : k < n := by omega
      simp [this, List.filter_cons]
theorem bits_step {w k t : Nat} (hw : w < 2 ^ 64) (hk : w.testBit k = true) (hb : ∀ i, i < k → w.testBit i = false) (ht : t ≤ k) : bitsFrom w t = k :: bitsFrom (w &&& (w - 1)) (k + 1) ∧ ((w &&& (w - 1)) < 2 ^ 64) := by
  have h0 : 0 < w := by
    apply Nat.pos_of_ne_zero; rintro rfl; simp at hk
  obtain ⟨k', a1, a2, a3⟩ := low_bit h0
  obtain rfl : k' = k := by
    apply Decidable.byContradiction; intro hn
    rcases Nat.lt_or_gt_of_ne hn with h | h
    · rw [hb _ h] at a1; cases a1
    · rw [a2 _ h] at hk; cases hk
  refine ⟨?_, Nat.lt_of_le_of_lt Nat.and_le_left hw⟩
  unfold bitsFrom
  rw [range_filter _ k' (by simp [ht, hk]) (fun i hi => by simp [hb i hi]) 64 (bit_lt hw hk)]
  congr 1
  apply List.filter_congr
  intro i _
  rw [and_pred a1 a2 a3]
  by_cases h : k' < i
  · have h1 : t ≤ i := by omega
    have h2 : k' + 1 ≤ i := by omega
    simp [h, h1, h2]
  · have h2 : ¬ k' + 1 ≤ i := by omega
    simp [h, h2]
theorem bits_nil (t : Nat) : bitsFrom 0 t = [] := by
  unfold bitsFrom; rw [List.filter_eq_nil_iff]; intro i _; simp
/-- Two lists that rise and have the same elements are the same. -/
theorem rise_eq : ∀ {l m : List Int}, l.Pairwise (· < ·) → m.Pairwise (· < ·) → (∀ x, x ∈ l ↔ x ∈ m) → l = m
  | [], [], _, _, _ => rfl
  | [], y :: m, _, _, h => by have := (h y).2 (by simp); cases this
  | x :: l, [], _, _, h => by have := (h x).1 (by simp); cases this
  | x :: l, y :: m, hl, hm, h => by
    obtain ⟨l1, l2⟩ := List.pairwise_cons.1 hl
    obtain ⟨m1, m2⟩ := List.pairwise_cons.1 hm
    have hxy : x = y := by
      rcases List.mem_cons.1 ((h x).1 (by simp)) with e | e
      · exact e
      · rcases List.mem_cons.1 ((h y).2 (by simp)) with e' | e'
        · exact e'.symm
        · have := l1 y e'; have := m1 x e; omega
    subst hxy
    rw [rise_eq l2 m2 fun z => ?_]
    constructor
    · intro hz
      rcases List.mem_cons.1 ((h z).1 (by simp [hz])) with e | e
      · have := l1 z hz; omega
      · exact e
    · intro hz
      rcases List.mem_cons.1 ((h z).2 (by simp [hz])) with e | e
      · have := m1 z hz; omega
      · exact e
end Go.Em
