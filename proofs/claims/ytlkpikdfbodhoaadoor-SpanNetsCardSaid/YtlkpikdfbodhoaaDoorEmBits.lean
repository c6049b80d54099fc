/- Sets of small numbers as the bits of words: the lowest bit, what is left without it, all of them in order. -/
import Derived.Test.YtlkpikdfbodhoaaDoorEmZ
namespace Go.Em
def bitsFrom (w t : Nat) : List Nat := (List.range 64).filter fun b => decide (t ≤ b) && w.testBit b
theorem rise_eq : ∀ {l m : List Int}, l.Pairwise (· < ·) → m.Pairwise (· < ·) → (∀ x, x ∈ l ↔ x ∈ m) → l = m
  | [], [], _, _, _ => rfl
  | [], y :: m, _, _, h => by have := (h y).2 (by simp); cases this
  | x :: l, [], _, _, h => by have := (h x).1 (by simp); cases this
  | x :: l, y :: m, hl, hm, h => by
    obtain ⟨l1, l2⟩ := List.pairwise_cons.1 hl
    obtain ⟨m1, m2⟩ := List.pairwise_cons.1 hm
    have hxy : x = y := by
      rcases List.mem_cons.1 ((h x).1 (by simp)) with e | e
      · exact e
      · rcases List.mem_cons.1 ((h y).2 (by simp)) with e' | e'
        · exact e'.symm
        · have := l1 y e'; have := m1 x e; omega
    subst hxy
    rw [rise_eq l2 m2 fun z => ?_]
    constructor
    · intro hz
      rcases List.mem_cons.1 ((h z).1 (by simp [hz])) with e | e
      · have := l1 z hz; omega
      · exact e
    · intro hz
      rcases List.mem_cons.1 ((h z).2 (by simp [hz])) with e | e
      · have := m1 z hz; omega
      · exact e
end Go.Em
/- Marks of claims: put in one by one, and as the bits of words. -/
namespace Go.Em
def Rise (l : List Int) : Prop := l.Pairwise (· < ·)
def insF (l : List Int) (n : Int) : List Int := if n ∈ l then l else l.filter (fun x => decide (x < n)) ++ n :: l.filter (fun x => decide (n < x))
theorem insF_mem (l : List Int) (n x : Int) : x ∈ insF l n ↔ x ∈ l ∨ x = n := by
  unfold insF
  split
  · rename_i h
    constructor
    · exact .inl
    · rintro (h' | rfl) <;> assumption
  · rename_i h
    simp only [List.mem_append, List.mem_filter, List.mem_cons, decide_eq_true_eq]
    constructor
    · rintro (⟨a, _⟩ | rfl | ⟨a, _⟩)
      · exact .inl a
      · exact .inr rfl
      · exact .inl a
    · rintro (a | rfl)
      · rcases Int.lt_trichotomy x n with b | b | b
        · exact .inl ⟨a, b⟩
        · subst b; exact absurd a h
        · exact .inr (.inr ⟨a, b⟩)
      · exact .inr (.inl rfl)
theorem insF_rise {l : List Int} (h : Rise l) (n : Int) : Rise (insF l n) := by
  unfold insF
  split
  · exact h
  · unfold Rise
    rw [List.pairwise_append, List.pairwise_cons]
    refine ⟨h.filter _, ⟨fun x hx => by simpa using (List.mem_filter.1 hx).2, h.filter _⟩, fun a ha b hb => ?_⟩
    have h1 : a < n := by simpa using (List.mem_filter.1 ha).2
    rcases List.mem_cons.1 hb with rfl | hb
    · exact h1
    · have h2 : n < b := by simpa using (List.mem_filter.1 hb).2
      omega
theorem ins_at {l : List Int} (h : Rise l) {n : Int} {i : Nat} (hi : i ≤ l.length) (h1 : ∀ j (hj : j < l.length), i ≤ j → n ≤ l[j]) (h2 : ∀ (h0 : 0 < i), l[i - 1]'(by omega) < n) :
    insF l n = if h3 : i < l.length then (if l[i] = n then l else l.take i ++ n :: l.drop i) else l ++ [n] := by
  have lo : ∀ j (hj : j < l.length), j < i → l[j] < n := by
    intro j hj hji
    have h0 : 0 < i := by omega
    have := h2 h0
    rcases Nat.lt_or_eq_of_le (show j ≤ i - 1 by omega) with e | e
    · have := List.pairwise_iff_getElem.1 h j (i - 1) hj (by omega) e; omega
    · subst e; exact this
  have key : ∀ x, x ∈ l → (x < n ↔ x ∈ l.take i) := by
    intro x hx
    obtain ⟨j, hj, rfl⟩ := List.getElem_of_mem hx
    constructor
    · intro hlt
      have hji : j < i := by
        apply Decidable.byContradiction; intro hn; have := h1 j hj (by omega); omega
      rw [List.mem_take_iff_getElem]
      exact ⟨j, by omega, rfl⟩
    · intro hm
      rw [List.mem_take_iff_getElem] at hm
      obtain ⟨k, hk, e⟩ := hm
      rw [← e]; exact lo k (by omega) (by omega)
  refine rise_eq (insF_rise h n) ?_ fun x => ?_
  · split
    · rename_i h3
      split
      · exact h
      · rename_i h4
        rw [List.pairwise_append, List.pairwise_cons]
        have hd : ∀ b, b ∈ l.drop i → n < b := by
          intro b hb
          rw [List.mem_drop_iff_getElem] at hb
          obtain ⟨j, hj, rfl⟩ := hb
          have h5 := h1 i h3 (Nat.le_refl _)
          rcases Nat.eq_zero_or_pos j with e | e
          · subst e; simp only [Nat.add_zero] at *; omega
          · have := List.pairwise_iff_getElem.1 h i (i + j) h3 (by omega) (by omega); omega
        refine ⟨h.sublist (List.take_sublist _ _), ⟨hd, h.sublist (List.drop_sublist _ _)⟩, fun a ha b hb => ?_⟩
        have ha' := (key a (List.mem_of_mem_take ha)).2 ha
        rcases List.mem_cons.1 hb with rfl | hb
        · exact ha'
        · have := hd b hb; omega
    · rename_i h3
      have e : i = l.length := by omega
      subst e
      rw [List.pairwise_append]
      refine ⟨h, by simp, fun a ha b hb => ?_⟩
      obtain rfl := List.mem_singleton.1 hb
      exact (key a ha).2 (by rw [List.take_length]; exact ha)
  · rw [insF_mem]
    split
    · split
      · rename_i h3 h4
        constructor
        · rintro (a | rfl)
          · exact a
          · rw [← h4]; exact List.getElem_mem h3
        · exact .inl
      · rw [List.mem_append, List.mem_cons]
        conv => lhs; rw [← List.take_append_drop i l, List.mem_append]
        constructor
        · rintro ((a | a) | a)
          · exact .inl a
          · exact .inr (.inr a)
          · exact .inr (.inl a)
        · rintro (a | a | a)
          · exact .inl (.inl a)
          · exact .inr a
          · exact .inl (.inr a)
    · simp
theorem insF_len (l : List Int) (n : Int) : (insF l n).length ≤ l.length + 1 := by
  unfold insF
  split
  · omega
  · rw [List.length_append, List.length_cons]
    have : ∀ l : List Int, (l.filter fun x => decide (x < n)).length + (l.filter fun x => decide (n < x)).length ≤ l.length := by
      intro l
      induction l with
      | nil => simp
      | cons x l ih =>
        simp only [List.filter_cons, List.length_cons]
        by_cases h1 : x < n
        · have h2 : ¬ n < x := by omega
          simp [h1, h2]; omega
        · by_cases h2 : n < x
          · simp [h1, h2]; omega
          · simp [h1, h2]; omega
    have := this l
    omega

def setL (W : List Nat) : List Int := (List.range W.length).flatMap fun i => (bitsFrom (W.getD i 0) 0).map fun b => ((64 * i + b : Nat) : Int)
def addF (W : List Nat) (m : Nat) : List Nat := W.set (m / 64) (W.getD (m / 64) 0 ||| 2 ^ (m % 64))
def hasF (W : List Nat) (m : Nat) : Bool := (W.getD (m / 64) 0).testBit (m % 64)
theorem addF_len (W : List Nat) (m : Nat) : (addF W m).length = W.length := by simp [addF]
theorem addF_lt {W : List Nat} (h : ∀ w ∈ W, w < 2 ^ 64) (m : Nat) : ∀ w ∈ addF W m, w < 2 ^ 64 := by
  intro w hw
  have hg : W.getD (m / 64) 0 < 2 ^ 64 := by
    rw [List.getD_eq_getElem?_getD]
    cases e : W[m / 64]? with
    | none => exact Nat.two_pow_pos 64
    | some x => exact h x (List.mem_of_getElem? e)
  rcases List.mem_or_eq_of_mem_set hw with h1 | rfl
  · exact h w h1
  · exact Nat.or_lt_two_pow hg (Nat.pow_lt_pow_right (by omega) (by omega))
theorem addF_has {W : List Nat} {m : Nat} (hm : m / 64 < W.length) (k : Nat) : hasF (addF W m) k = (hasF W k || decide (k = m)) := by
  unfold hasF addF
  simp only [List.getD_eq_getElem?_getD]
  by_cases h : m / 64 = k / 64
  · rw [h] at hm ⊢
    rw [List.getElem?_set_self hm]
    simp only [Option.getD_some, Nat.testBit_or, Nat.testBit_two_pow]
    congr 1
    by_cases e : k = m
    · subst e; simp
    · have : ¬ m % 64 = k % 64 := by omega
      simp [e, this]
  · rw [List.getElem?_set_ne h]
    have : ¬ k = m := by rintro rfl; exact h rfl
    simp [this]
structure Clm where
  a : Int
  b : Int
  lo : Int
  hi : Int
  by_ : Int
def marksF (l : List Clm) : List Int := l.foldl (fun m c => insF (insF m c.a) c.b) []
theorem marks_snoc (l : List Clm) (c : Clm) : marksF (l ++ [c]) = insF (insF (marksF l) c.a) c.b := by unfold marksF; rw [List.foldl_append]; rfl
def HasSet (W : List Nat) (l : List Clm) : Prop := W.length = 33 ∧ (∀ w ∈ W, w < 2 ^ 64) ∧ ∀ m : Nat, hasF W m = true ↔ ((m : Int) ∈ marksF l)
theorem HasSet.nil : HasSet (List.replicate 33 0) [] := by
  refine ⟨by simp, fun w hw => by rw [List.eq_of_mem_replicate hw]; omega, fun m => ?_⟩
  have : (List.replicate 33 0).getD (m / 64) 0 = 0 := by
    rw [List.getD_eq_getElem?_getD, List.getElem?_replicate]; split <;> rfl
  unfold hasF
  rw [this]; simp [marksF]
theorem HasSet.add {W : List Nat} {l : List Clm} (h : HasSet W l) {c : Clm} {a b : Nat} (ha : c.a = a) (hb : c.b = b) (ha' : a ≤ 2048) (hb' : b ≤ 2048) : HasSet (addF (addF W a) b) (l ++ [c]) := by
  obtain ⟨h1, h2, h3⟩ := h
  refine ⟨by rw [addF_len, addF_len, h1], addF_lt (addF_lt h2 a) b, fun m => ?_⟩
  rw [addF_has (by rw [addF_len, h1]; omega), addF_has (by rw [h1]; omega), marks_snoc, insF_mem, insF_mem, ← h3 m, ha, hb]
  simp only [Bool.or_eq_true, decide_eq_true_eq]
  constructor
  · rintro ((x | rfl) | rfl)
    · exact .inl (.inl x)
    · exact .inl (.inr rfl)
    · exact .inr rfl
  · rintro ((x | e) | e)
    · exact .inl (.inl x)
    · exact .inl (.inr (by omega))
    · exact .inr (by omega)
end Go.Em
/- Words of 64 bits, as values. -/
namespace Go.Em
open Go
abbrev wordD (w : Nat) : D := .val (.int .u64 (w : Int))
theorem wrap_u64 {n : Int} (h1 : 0 ≤ n) (h2 : n < 18446744073709551616) : IntKind.u64.wrap n = n := by
  have e1 : (2 : Int) ^ IntKind.u64.bits = 18446744073709551616 := by decide
  simp only [IntKind.wrap, IntKind.signed, e1, Bool.false_and]
  simp
  omega
theorem toNat_of {a : Nat} (ha : a < 2 ^ 64) : (BitVec.ofInt 64 (a : Int)).toNat = a := by
  rw [BitVec.ofInt_natCast, BitVec.toNat_ofNat]; exact Nat.mod_eq_of_lt ha
theorem bin_and64 {a b : Nat} (ha : a < 2 ^ 64) (hb : b < 2 ^ 64) : bin .and (.int .u64 (a : Int)) (.int .u64 (b : Int)) = some (.int .u64 ((a &&& b : Nat) : Int)) := by
  show some (Value.int .u64 (IntKind.u64.wrap ((BitVec.ofInt 64 (a : Int) &&& BitVec.ofInt 64 (b : Int)).toNat : Int))) = _
  rw [BitVec.toNat_and, toNat_of ha, toNat_of hb, wrap_u64 (by omega) (by have := Nat.and_lt_two_pow a hb; omega)]
theorem bin_shl64 {n : Nat} (hn : n < 64) : bin .shl (.int .u64 1) (.int .i64 (n : Int)) = some (.int .u64 ((2 ^ n : Nat) : Int)) := by
  have h : bin .shl (.int .u64 1) (.int .i64 (n : Int)) = ans (Op.shift .shl .u64 1 .i64 (n : Int)) := rfl
  rw [h]
  unfold Op.shift
  rw [if_neg (by omega)]
  have e : min ((n : Int).toNat) IntKind.u64.bits = n := by
    have : IntKind.u64.bits = 64 := rfl
    rw [this]; omega
  rw [e]
  have e2 : (1 : Int) * 2 ^ n = ((2 ^ n : Nat) : Int) := by simp
  have hlt : 2 ^ n < 2 ^ 64 := Nat.pow_lt_pow_right (by omega) hn
  show some (Value.int .u64 (IntKind.u64.wrap (1 * 2 ^ n))) = _
  rw [e2]
  generalize 2 ^ n = p at hlt ⊢
  rw [wrap_u64 (by omega) (by omega)]
theorem wrap_nat (a : Nat) : IntKind.u64.wrap (a : Int) = ((a % 18446744073709551616 : Nat) : Int) := by
  have e1 : (2 : Int) ^ IntKind.u64.bits = 18446744073709551616 := by decide
  simp only [IntKind.wrap, IntKind.signed, e1, Bool.false_and]
  simp
end Go.Em
