/- Sets of small numbers as the bits of words: the lowest bit, what is left without it, all of them in order. -/
import Derived.Test.YtlfknfknlcgfcaaGreatDoorEmZ
namespace Go.Em
theorem low_ex : ∀ w : Nat, 0 < w → ∃ k q, w = 2 ^ k * (2 * q + 1) := by
  intro w
  induction w using Nat.strongRecOn with
  | ind w ih =>
    intro h
    by_cases h2 : w % 2 = 1
    · exact ⟨0, w / 2, by simp; omega⟩
    · obtain ⟨k, q, e⟩ := ih (w / 2) (by omega) (by omega)
      refine ⟨k + 1, q, ?_⟩
      have : w = 2 * (w / 2) := by omega
      rw [this, e, Nat.pow_succ]
      simp only [Nat.mul_comm, Nat.mul_left_comm]
theorem low_bits {k q : Nat} (i : Nat) : (2 ^ k * (2 * q + 1)).testBit i = if i < k then false else if i = k then true else (2 * q + 1).testBit (i - k) := by
  have h := Nat.testBit_two_pow_mul_add (2 * q + 1) (b := 0) (i := k) (Nat.two_pow_pos k) i
  rw [Nat.add_zero] at h
  rw [h]
  by_cases h1 : i < k
  · simp [h1]
  · by_cases h2 : i = k
    · subst h2; simp
    · simp [h1, h2]
theorem pred_bits {k q : Nat} (i : Nat) : (2 ^ k * (2 * q + 1) - 1).testBit i = if i < k then true else if i = k then false else (2 * q + 1).testBit (i - k) := by
  have e : 2 ^ k * (2 * q + 1) - 1 = 2 ^ k * (2 * q) + (2 ^ k - 1) := by
    have := Nat.two_pow_pos k
    rw [Nat.mul_add, Nat.mul_one]; omega
  rw [e, Nat.testBit_two_pow_mul_add (2 * q) (by have := Nat.two_pow_pos k; omega)]
  by_cases h1 : i < k
  · simp [h1]
  · by_cases h2 : i = k
    · subst h2; simp
    · obtain ⟨j, hj⟩ : ∃ j, i - k = j + 1 := ⟨i - k - 1, by omega⟩
      rw [if_neg h1, if_neg h1, if_neg h2, hj]
      simp only [Nat.testBit_succ]
      congr 1; omega
theorem low_bit {w : Nat} (h : 0 < w) : ∃ k, w.testBit k = true ∧ (∀ i, i < k → w.testBit i = false) ∧ (∀ i, (w - 1).testBit i = if i < k then true else if i = k then false else w.testBit i) := by
  obtain ⟨k, q, rfl⟩ := low_ex w h
  refine ⟨k, by rw [low_bits]; simp, fun i hi => by rw [low_bits, if_pos hi], fun i => ?_⟩
  rw [pred_bits, low_bits]
  by_cases h1 : i < k
  · simp [h1]
  · by_cases h2 : i = k
    · simp [h2]
    · simp [h1, h2]
theorem bit_lt {w k n : Nat} (hw : w < 2 ^ n) (h : w.testBit k = true) : k < n := by
  apply Decidable.byContradiction; intro hn
  have : w < 2 ^ k := Nat.lt_of_lt_of_le hw (Nat.pow_le_pow_right (by omega) (by omega))
  rw [Nat.testBit_lt_two_pow this] at h; cases h
theorem and_neg {w k : Nat} (h0 : 0 < w) (hw : w < 2 ^ 64) (h1 : w.testBit k = true) (h2 : ∀ i, i < k → w.testBit i = false) (h3 : ∀ i, (w - 1).testBit i = if i < k then true else if i = k then false else w.testBit i) :
    w &&& (2 ^ 64 - w) = 2 ^ k := by
  have hk := bit_lt hw h1
  apply Nat.eq_of_testBit_eq
  intro i
  have e : 2 ^ 64 - w = 2 ^ 64 - ((w - 1) + 1) := by omega
  rw [Nat.testBit_and, e, Nat.testBit_two_pow_sub_succ (by omega), h3, Nat.testBit_two_pow]
  by_cases a : i < k
  · have : ¬ k = i := by omega
    simp [h2 i a, this]
  · by_cases b : i = k
    · subst b; simp [h1, hk]
    · have : ¬ k = i := by omega
      simp only [a, b, this, if_false, decide_false]
      cases w.testBit i <;> simp
theorem and_pred {w k : Nat} (h1 : w.testBit k = true) (h2 : ∀ i, i < k → w.testBit i = false) (h3 : ∀ i, (w - 1).testBit i = if i < k then true else if i = k then false else w.testBit i) (i : Nat) :
    (w &&& (w - 1)).testBit i = (w.testBit i && decide (k < i)) := by
  rw [Nat.testBit_and, h3]
  by_cases a : i < k
  · simp [h2 i a]
  · by_cases b : i = k
    · subst b; simp
    · have : k < i := by omega
      simp [a, b, this]
def bitsFrom (w t : Nat) : List Nat := (List.range 64).filter fun b => decide (t ≤ b) && w.testBit b
theorem range_filter (p : Nat → Bool) (k : Nat) (hk : p k = true) (hb : ∀ i, i < k → p i = false) : ∀ n, k < n → (List.range n).filter p = k :: (List.range n).filter (fun i => decide (k < i) && p i) := by
  intro n
  induction n with
  | zero => intro h; omega
  | succ n ih =>
    intro h
    rw [List.range_succ, List.filter_append, List.filter_append]
    by_cases e : n = k
    · subst e
      have h1 : (List.range n).filter p = [] := by
        rw [List.filter_eq_nil_iff]; intro i hi; rw [hb i (List.mem_range.1 hi)]; simp
      have h2 : (List.range n).filter (fun i => decide (n < i) && p i) = [] := by
        rw [List.filter_eq_nil_iff]; intro i hi; have := List.mem_range.1 hi
        have : ¬ n < i := by omega
        simp [this]
      rw [h1, h2]; simp [hk]
    · rw [ih (by omega)]
      have : k < n := by omega
      simp [this, List.filter_cons]
theorem bits_step {w k t : Nat} (hw : w < 2 ^ 64) (hk : w.testBit k = true) (hb : ∀ i, i < k → w.testBit i = false) (ht : t ≤ k) : bitsFrom w t = k :: bitsFrom (w &&& (w - 1)) (k + 1) ∧ ((w &&& (w - 1)) < 2 ^ 64) := by
  have h0 : 0 < w := by
    apply Nat.pos_of_ne_zero; rintro rfl; simp at hk
  obtain ⟨k', a1, a2, a3⟩ := low_bit h0
  obtain rfl : k' = k := by
    apply Decidable.byContradiction; intro hn
    rcases Nat.lt_or_gt_of_ne hn with h | h
    · rw [hb _ h] at a1; cases a1
    · rw [a2 _ h] at hk; cases hk
  refine ⟨?_, Nat.lt_of_le_of_lt Nat.and_le_left hw⟩
  unfold bitsFrom
  rw [range_filter _ k' (by simp [ht, hk]) (fun i hi => by simp [hb i hi]) 64 (bit_lt hw hk)]
  congr 1
  apply List.filter_congr
  intro i _
  rw [and_pred a1 a2 a3]
  by_cases h : k' < i
  · have h1 : t ≤ i := by omega
    have h2 : k' + 1 ≤ i := by omega
    simp [h, h1, h2]
  · have h2 : ¬ k' + 1 ≤ i := by omega
    simp [h, h2]
theorem bits_nil (t : Nat) : bitsFrom 0 t = [] := by
  unfold bitsFrom; rw [List.filter_eq_nil_iff]; intro i _; simp
theorem rise_eq : ∀ {l m : List Int}, l.Pairwise (· < ·) → m.Pairwise (· < ·) → (∀ x, x ∈ l ↔ x ∈ m) → l = m
  | [], [], _, _, _ => rfl
  | [], y :: m, _, _, h => by have := (h y).2 (by simp); cases this
  | x :: l, [], _, _, h => by have := (h x).1 (by simp); cases this
  | x :: l, y :: m, hl, hm, h => by
    obtain ⟨l1, l2⟩ := List.pairwise_cons.1 hl
    obtain ⟨m1, m2⟩ := List.pairwise_cons.1 hm
    have hxy : x = y := by
      rcases List.mem_cons.1 ((h x).1 (by simp)) with e | e
      · exact e
      · rcases List.mem_cons.1 ((h y).2 (by simp)) with e' | e'
        · exact e'.symm
        · have := l1 y e'; have := m1 x e; omega
    subst hxy
    rw [rise_eq l2 m2 fun z => ?_]
    constructor
    · intro hz
      rcases List.mem_cons.1 ((h z).1 (by simp [hz])) with e | e
      · have := l1 z hz; omega
      · exact e
    · intro hz
      rcases List.mem_cons.1 ((h z).2 (by simp [hz])) with e | e
      · have := m1 z hz; omega
      · exact e
end Go.Em
/- Marks of claims: put in one by one, and as the bits of words. -/
namespace Go.Em
def Rise (l : List Int) : Prop := l.Pairwise (· < ·)
def insF (l : List Int) (n : Int) : List Int := if n ∈ l then l else l.filter (fun x => decide (x < n)) ++ n :: l.filter (fun x => decide (n < x))
theorem insF_mem (l : List Int) (n x : Int) : x ∈ insF l n ↔ x ∈ l ∨ x = n := by
  unfold insF
  split
  · rename_i h
    constructor
    · exact .inl
    · rintro (h' | rfl) <;> assumption
  · rename_i h
    simp only [List.mem_append, List.mem_filter, List.mem_cons, decide_eq_true_eq]
    constructor
    · rintro (⟨a, _⟩ | rfl | ⟨a, _⟩)
      · exact .inl a
      · exact .inr rfl
      · exact .inl a
    · rintro (a | rfl)
      · rcases Int.lt_trichotomy x n with b | b | b
        · exact .inl ⟨a, b⟩
        · subst b; exact absurd a h
        · exact .inr (.inr ⟨a, b⟩)
      · exact .inr (.inl rfl)
theorem insF_rise {l : List Int} (h : Rise l) (n : Int) : Rise (insF l n) := by
  unfold insF
  split
  · exact h
  · unfold Rise
    rw [List.pairwise_append, List.pairwise_cons]
    refine ⟨h.filter _, ⟨fun x hx => by simpa using (List.mem_filter.1 hx).2, h.filter _⟩, fun a ha b hb => ?_⟩
    have h1 : a < n := by simpa using (List.mem_filter.1 ha).2
    rcases List.mem_cons.1 hb with rfl | hb
    · exact h1
    · have h2 : n < b := by simpa using (List.mem_filter.1 hb).2
      omega
theorem ins_at {l : List Int} (h : Rise l) {n : Int} {i : Nat} (hi : i ≤ l.length) (h1 : ∀ j (hj : j < l.length), i ≤ j → n ≤ l[j]) (h2 : ∀ (h0 : 0 < i), l[i - 1]'(by omega) < n) :
    insF l n = if h3 : i < l.length then (if l[i] = n then l else l.take i ++ n :: l.drop i) else l ++ [n] := by
  have lo : ∀ j (hj : j < l.length), j < i → l[j] < n := by
    intro j hj hji
    have h0 : 0 < i := by omega
    have := h2 h0
    rcases Nat.lt_or_eq_of_le (show j ≤ i - 1 by omega) with e | e
    · have := List.pairwise_iff_getElem.1 h j (i - 1) hj (by omega) e; omega
    · subst e; exact this
  have key : ∀ x, x ∈ l → (x < n ↔ x ∈ l.take i) := by
    intro x hx
    obtain ⟨j, hj, rfl⟩ := List.getElem_of_mem hx
    constructor
    · intro hlt
      have hji : j < i := by
        apply Decidable.byContradiction; intro hn; have := h1 j hj (by omega); omega
      rw [List.mem_take_iff_getElem]
      exact ⟨j, by omega, rfl⟩
    · intro hm
      rw [List.mem_take_iff_getElem] at hm
      obtain ⟨k, hk, e⟩ := hm
      rw [← e]; exact lo k (by omega) (by omega)
  refine rise_eq (insF_rise h n) ?_ fun x => ?_
  · split
    · rename_i h3
      split
      · exact h
      · rename_i h4
        rw [List.pairwise_append, List.pairwise_cons]
        have hd : ∀ b, b ∈ l.drop i → n < b := by
          intro b hb
          rw [List.mem_drop_iff_getElem] at hb
          obtain ⟨j, hj, rfl⟩ := hb
          have h5 := h1 i h3 (Nat.le_refl _)
          rcases Nat.eq_zero_or_pos j with e | e
          · subst e; simp only [Nat.add_zero] at *; omega
          · have := List.pairwise_iff_getElem.1 h i (i + j) h3 (by omega) (by omega); omega
        refine ⟨h.sublist (List.take_sublist _ _), ⟨hd, h.sublist (List.drop_sublist _ _)⟩, fun a ha b hb => ?_⟩
        have ha' := (key a (List.mem_of_mem_take ha)).2 ha
        rcases List.mem_cons.1 hb with rfl | hb
        · exact ha'
        · have := hd b hb; omega
    · rename_i h3
      have e : i = l.length := by omega
      subst e
      rw [List.pairwise_append]
      refine ⟨h, by simp, fun a ha b hb => ?_⟩
      obtain rfl := List.mem_singleton.1 hb
      exact (key a ha).2 (by rw [List.take_length]; exact ha)
  · rw [insF_mem]
    split
    · split
      · rename_i h3 h4
        constructor
        · rintro (a | rfl)
          · exact a
          · rw [← h4]; exact List.getElem_mem h3
        · exact .inl
      · rw [List.mem_append, List.mem_cons]
        conv => lhs; rw [← List.take_append_drop i l, List.mem_append]
        constructor
        · rintro ((a | a) | a)
          · exact .inl a
          · exact .inr (.inr a)
          · exact .inr (.inl a)
        · rintro (a | a | a)
          · exact .inl (.inl a)
          · exact .inr a
          · exact .inl (.inr a)
    · simp
theorem insF_len (l : List Int) (n : Int) : (insF l n).length ≤ l.length + 1 := by
  unfold insF
  split
  · omega
  · rw [List.length_append, List.length_cons]
    have : ∀ l : List Int, (l.filter fun x => decide (x < n)).length + (l.filter fun x => decide (n < x)).length ≤ l.length := by
      intro l
      induction l with
      | nil => simp
      | cons x l ih =>
        simp only [List.filter_cons, List.length_cons]
        by_cases h1 : x < n
        · have h2 : ¬ n < x := by omega
          simp [h1, h2]; omega
        · by_cases h2 : n < x
          · simp [h1, h2]; omega
          · simp [h1, h2]; omega
    have := this l
    omega

def setL (W : List Nat) : List Int := (List.range W.length).flatMap fun i => (bitsFrom (W.getD i 0) 0).map fun b => ((64 * i + b : Nat) : Int)
def addF (W : List Nat) (m : Nat) : List Nat := W.set (m / 64) (W.getD (m / 64) 0 ||| 2 ^ (m % 64))
def hasF (W : List Nat) (m : Nat) : Bool := (W.getD (m / 64) 0).testBit (m % 64)
theorem addF_len (W : List Nat) (m : Nat) : (addF W m).length = W.length := by simp [addF]
theorem addF_lt {W : List Nat} (h : ∀ w ∈ W, w < 2 ^ 64) (m : Nat) : ∀ w ∈ addF W m, w < 2 ^ 64 := by
  intro w hw
  have hg : W.getD (m / 64) 0 < 2 ^ 64 := by
    rw [List.getD_eq_getElem?_getD]
    cases e : W[m / 64]? with
    | none => exact Nat.two_pow_pos 64
    | some x => exact h x (List.mem_of_getElem? e)
  rcases List.mem_or_eq_of_mem_set hw with h1 | rfl
  · exact h w h1
  · exact Nat.or_lt_two_pow hg (Nat.pow_lt_pow_right (by omega) (by omega))
theorem addF_has {W : List Nat} {m : Nat} (hm : m / 64 < W.length) (k : Nat) : hasF (addF W m) k = (hasF W k || decide (k = m)) := by
  unfold hasF addF
  simp only [List.getD_eq_getElem?_getD]
  by_cases h : m / 64 = k / 64
  · rw [h] at hm ⊢
    rw [List.getElem?_set_self hm]
    simp only [Option.getD_some, Nat.testBit_or, Nat.testBit_two_pow]
    congr 1
    by_cases e : k = m
    · subst e; simp
    · have : ¬ m % 64 = k % 64 := by omega
      simp [e, this]
  · rw [List.getElem?_set_ne h]
    have : ¬ k = m := by rintro rfl; exact h rfl
    simp [this]
theorem bits_mem {w t b : Nat} : b ∈ bitsFrom w t ↔ b < 64 ∧ t ≤ b ∧ w.testBit b = true := by
  unfold bitsFrom; simp
theorem range_rise : ∀ n, (List.range n).Pairwise (· < ·) := fun n => by
  rw [List.pairwise_iff_getElem]; intro i j hi hj h; simpa using h
theorem setL_mem (W : List Nat) (x : Int) : x ∈ setL W ↔ ∃ m : Nat, x = m ∧ m / 64 < W.length ∧ hasF W m = true := by
  unfold setL
  simp only [List.mem_flatMap, List.mem_range, List.mem_map, bits_mem]
  constructor
  · rintro ⟨i, hi, b, ⟨hb, _, h⟩, rfl⟩
    refine ⟨64 * i + b, rfl, by omega, ?_⟩
    unfold hasF
    rw [show (64 * i + b) / 64 = i by omega, show (64 * i + b) % 64 = b by omega]; exact h
  · rintro ⟨m, rfl, h1, h2⟩
    exact ⟨m / 64, h1, m % 64, ⟨by omega, by omega, h2⟩, by omega⟩
theorem setL_rise (W : List Nat) : Rise (setL W) := by
  unfold setL Rise
  rw [List.flatMap, List.pairwise_flatten]
  constructor
  · intro l hl
    obtain ⟨i, _, rfl⟩ := List.mem_map.1 hl
    rw [List.pairwise_map]
    refine ((range_rise 64).filter _).imp ?_
    intro a b h; omega
  · rw [List.pairwise_map]
    refine (range_rise _).imp ?_
    intro i j hij x hx y hy
    obtain ⟨a, ha, rfl⟩ := List.mem_map.1 hx
    obtain ⟨b, hb, rfl⟩ := List.mem_map.1 hy
    have := (bits_mem.1 ha).1
    omega

structure Clm where
  a : Int
  b : Int
  lo : Int
  hi : Int
  by_ : Int
def marksF (l : List Clm) : List Int := l.foldl (fun m c => insF (insF m c.a) c.b) []
theorem marks_snoc (l : List Clm) (c : Clm) : marksF (l ++ [c]) = insF (insF (marksF l) c.a) c.b := by unfold marksF; rw [List.foldl_append]; rfl
theorem foldl_rise : ∀ (l : List Clm) (m : List Int), Rise m → Rise (l.foldl (fun m c => insF (insF m c.a) c.b) m)
  | [], _, h => h
  | _ :: l, _, h => foldl_rise l _ (insF_rise (insF_rise h _) _)
theorem marks_rise (l : List Clm) : Rise (marksF l) := foldl_rise l [] List.Pairwise.nil
theorem foldl_mem (x : Int) : ∀ (l : List Clm) (m : List Int), x ∈ l.foldl (fun m c => insF (insF m c.a) c.b) m ↔ x ∈ m ∨ ∃ c ∈ l, x = c.a ∨ x = c.b
  | [], _ => by simp
  | c :: l, m => by
    rw [List.foldl_cons, foldl_mem x l, insF_mem, insF_mem]
    simp only [List.mem_cons, exists_eq_or_imp]
    constructor
    · rintro (((h | h) | h) | h)
      · exact .inl h
      · exact .inr (.inl (.inl h))
      · exact .inr (.inl (.inr h))
      · exact .inr (.inr h)
    · rintro (h | (h | h) | h)
      · exact .inl (.inl (.inl h))
      · exact .inl (.inl (.inr h))
      · exact .inl (.inr h)
      · exact .inr h
theorem marks_mem (l : List Clm) (x : Int) : x ∈ marksF l ↔ ∃ c ∈ l, x = c.a ∨ x = c.b := by
  unfold marksF; rw [foldl_mem]; simp
theorem foldl_len : ∀ (l : List Clm) (m : List Int), (l.foldl (fun m c => insF (insF m c.a) c.b) m).length ≤ m.length + 2 * l.length
  | [], _ => by simp
  | c :: l, m => by
    have h1 := foldl_len l (insF (insF m c.a) c.b)
    have h2 := insF_len (insF m c.a) c.b
    have h3 := insF_len m c.a
    rw [List.foldl_cons, List.length_cons]; omega
theorem marks_len (l : List Clm) : (marksF l).length ≤ 2 * l.length := by
  have := foldl_len l []
  unfold marksF; simpa using this
def HasSet (W : List Nat) (l : List Clm) : Prop := W.length = 33 ∧ (∀ w ∈ W, w < 2 ^ 64) ∧ ∀ m : Nat, hasF W m = true ↔ ((m : Int) ∈ marksF l)
theorem set_marks {W : List Nat} {l : List Clm} (h : HasSet W l) (hl : ∀ c ∈ l, (0 ≤ c.a ∧ c.a ≤ 2048) ∧ (0 ≤ c.b ∧ c.b ≤ 2048)) : setL W = marksF l := by
  refine rise_eq (setL_rise W) (marks_rise l) fun x => ?_
  rw [setL_mem]
  constructor
  · rintro ⟨m, rfl, _, h2⟩
    exact (h.2.2 m).1 h2
  · intro hx
    obtain ⟨c, hc, e⟩ := (marks_mem l x).1 hx
    have := hl c hc
    obtain ⟨m, rfl⟩ : ∃ m : Nat, x = m := ⟨x.toNat, by omega⟩
    exact ⟨m, rfl, by rw [h.1]; omega, (h.2.2 m).2 hx⟩
theorem HasSet.nil : HasSet (List.replicate 33 0) [] := by
  refine ⟨by simp, fun w hw => by rw [List.eq_of_mem_replicate hw]; omega, fun m => ?_⟩
  have : (List.replicate 33 0).getD (m / 64) 0 = 0 := by
    rw [List.getD_eq_getElem?_getD, List.getElem?_replicate]; split <;> rfl
  unfold hasF
  rw [this]; simp [marksF]
theorem HasSet.add {W : List Nat} {l : List Clm} (h : HasSet W l) {c : Clm} {a b : Nat} (ha : c.a = a) (hb : c.b = b) (ha' : a ≤ 2048) (hb' : b ≤ 2048) : HasSet (addF (addF W a) b) (l ++ [c]) := by
  obtain ⟨h1, h2, h3⟩ := h
  refine ⟨by rw [addF_len, addF_len, h1], addF_lt (addF_lt h2 a) b, fun m => ?_⟩
  rw [addF_has (by rw [addF_len, h1]; omega), addF_has (by rw [h1]; omega), marks_snoc, insF_mem, insF_mem, ← h3 m, ha, hb]
  simp only [Bool.or_eq_true, decide_eq_true_eq]
  constructor
  · rintro ((x | rfl) | rfl)
    · exact .inl (.inl x)
    · exact .inl (.inr rfl)
    · exact .inr rfl
  · rintro ((x | e) | e)
    · exact .inl (.inl x)
    · exact .inl (.inr (by omega))
    · exact .inr (by omega)
end Go.Em
/- Words of 64 bits, as values. -/
namespace Go.Em
open Go
abbrev wordD (w : Nat) : D := .val (.int .u64 (w : Int))
theorem wrap_u64 {n : Int} (h1 : 0 ≤ n) (h2 : n < 18446744073709551616) : IntKind.u64.wrap n = n := by
  have e1 : (2 : Int) ^ IntKind.u64.bits = 18446744073709551616 := by decide
  simp only [IntKind.wrap, IntKind.signed, e1, Bool.false_and]
  simp
  omega
theorem toNat_of {a : Nat} (ha : a < 2 ^ 64) : (BitVec.ofInt 64 (a : Int)).toNat = a := by
  rw [BitVec.ofInt_natCast, BitVec.toNat_ofNat]; exact Nat.mod_eq_of_lt ha
theorem bin_or64 {a b : Nat} (ha : a < 2 ^ 64) (hb : b < 2 ^ 64) : bin .or (.int .u64 (a : Int)) (.int .u64 (b : Int)) = some (.int .u64 ((a ||| b : Nat) : Int)) := by
  show some (Value.int .u64 (IntKind.u64.wrap ((BitVec.ofInt 64 (a : Int) ||| BitVec.ofInt 64 (b : Int)).toNat : Int))) = _
  rw [BitVec.toNat_or, toNat_of ha, toNat_of hb, wrap_u64 (by omega) (by have := Nat.or_lt_two_pow ha hb; omega)]
theorem bin_and64 {a b : Nat} (ha : a < 2 ^ 64) (hb : b < 2 ^ 64) : bin .and (.int .u64 (a : Int)) (.int .u64 (b : Int)) = some (.int .u64 ((a &&& b : Nat) : Int)) := by
  show some (Value.int .u64 (IntKind.u64.wrap ((BitVec.ofInt 64 (a : Int) &&& BitVec.ofInt 64 (b : Int)).toNat : Int))) = _
  rw [BitVec.toNat_and, toNat_of ha, toNat_of hb, wrap_u64 (by omega) (by have := Nat.and_lt_two_pow a hb; omega)]
theorem bin_shl64 {n : Nat} (hn : n < 64) : bin .shl (.int .u64 1) (.int .i64 (n : Int)) = some (.int .u64 ((2 ^ n : Nat) : Int)) := by
  have h : bin .shl (.int .u64 1) (.int .i64 (n : Int)) = ans (Op.shift .shl .u64 1 .i64 (n : Int)) := rfl
  rw [h]
  unfold Op.shift
  rw [if_neg (by omega)]
  have e : min ((n : Int).toNat) IntKind.u64.bits = n := by
    have : IntKind.u64.bits = 64 := rfl
    rw [this]; omega
  rw [e]
  have e2 : (1 : Int) * 2 ^ n = ((2 ^ n : Nat) : Int) := by simp
  have hlt : 2 ^ n < 2 ^ 64 := Nat.pow_lt_pow_right (by omega) hn
  show some (Value.int .u64 (IntKind.u64.wrap (1 * 2 ^ n))) = _
  rw [e2]
  generalize 2 ^ n = p at hlt ⊢
  rw [wrap_u64 (by omega) (by omega)]
theorem wrap_nat (a : Nat) : IntKind.u64.wrap (a : Int) = ((a % 18446744073709551616 : Nat) : Int) := by
  have e1 : (2 : Int) ^ IntKind.u64.bits = 18446744073709551616 := by decide
  simp only [IntKind.wrap, IntKind.signed, e1, Bool.false_and]
  simp
theorem wrap_neg {w : Nat} (h0 : 0 < w) (h : w < 2 ^ 64) : IntKind.u64.wrap (0 - (w : Int)) = ((2 ^ 64 - w : Nat) : Int) := by
  have e1 : (2 : Int) ^ IntKind.u64.bits = 18446744073709551616 := by decide
  simp only [IntKind.wrap, IntKind.signed, e1, Bool.false_and]
  simp
  omega
theorem bin_shr64 (a : Nat) : bin .shr (.int .u64 (a : Int)) (.int .u64 58) = some (.int .u64 ((a / 288230376151711744 : Nat) : Int)) := by
  have h : bin .shr (.int .u64 (a : Int)) (.int .u64 58) = some (.int .u64 ((a : Int).fdiv (2 ^ 58))) := rfl
  rw [h]
  congr 2
  rw [Int.fdiv_eq_ediv_of_nonneg _ (by omega)]
  simp
end Go.Em
