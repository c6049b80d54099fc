/- Marks of a sheet and the years between them: how they add up. -/
import Derived.Test.YtomiigdpggeacaaDoorSpans
namespace Go.Proofs.YtomiigdpggeacaaDoor
open Go Go.Em
set_option maxRecDepth 100000
/-- Marks rise. -/
theorem marks_rise (c : Int) : ∀ (l : List Rw) (A : Int), ordF c A l = true → (marksF c l).Pairwise (· < ·) ∧ ∀ m ∈ marksF c l, A < m
  | [], _, _ => ⟨List.Pairwise.nil, fun _ h => by cases h⟩
  | r :: l, A, ho => by
    unfold ordF at ho
    rw [marksF_cons]
    split at ho
    · rename_i h1
      rw [if_pos h1]
      split at ho
      · cases ho
      · rename_i h2
        obtain ⟨i1, i2⟩ := marks_rise c l _ ho
        refine ⟨List.pairwise_cons.2 ⟨i2, i1⟩, fun m hm => ?_⟩
        rcases List.mem_cons.1 hm with rfl | hm
        · omega
        · have := i2 m hm; omega
    · rename_i h1
      rw [if_neg h1]
      exact marks_rise c l A ho
theorem marks_at (c : Int) (l : List Rw) (m : Int) (hm : m ∈ marksF c l) : ∃ (p : Nat) (hp : p < l.length), l[p].k = 1 ∧ markF c l[p].n = m := by
  unfold marksF at hm
  obtain ⟨r, hr, rfl⟩ := List.mem_map.1 hm
  obtain ⟨h1, h2⟩ := List.mem_filter.1 hr
  obtain ⟨p, hp, rfl⟩ := List.getElem_of_mem h1
  exact ⟨p, hp, by simpa using h2, rfl⟩
theorem at_marks (c : Int) (l : List Rw) (p : Nat) (hp : p < l.length) (hk : l[p].k = 1) : markF c l[p].n ∈ marksF c l :=
  List.mem_map.2 ⟨l[p], List.mem_filter.2 ⟨List.getElem_mem hp, by simp [hk]⟩, rfl⟩
/-- The place of the i-th mark. -/
theorem mark_place_of {i r c : Int} {l : List Rw} (h0 : chkF i r c l = 0) (j : Nat) (hj : j < (marksF c l).length) : ∃ p : Nat, p < l.length ∧ atF c (marksF c l)[j] l = (p : Int) := by
  obtain ⟨hc, ho⟩ := chk_core h0
  obtain ⟨p, hp, hk, hm⟩ := marks_at c l _ (List.getElem_mem hj)
  have := row_at hc (chk_ok h0) ho hp hk
  rw [hm] at this
  exact ⟨p, hp, this⟩
theorem place_le {i r c : Int} {l : List Rw} (h0 : chkF i r c l = 0) {j k : Nat} (hjk : j ≤ k) (hk : k < (marksF c l).length) {p q : Nat} (hp : atF c ((marksF c l)[j]'(by omega)) l = (p : Int)) (hq : atF c (marksF c l)[k] l = (q : Int)) : p ≤ q := by
  obtain ⟨hc, ho⟩ := chk_core h0
  obtain ⟨hr, _⟩ := marks_rise c l _ ho
  obtain ⟨p1, p2, p3⟩ := at_row hc hp
  obtain ⟨q1, q2, q3⟩ := at_row hc hq
  apply Decidable.byContradiction; intro hn
  have h1 := ord_two c l (-1) ho q p q1 p1 (by omega) q2 p2
  rw [p3, q3] at h1
  rcases Nat.eq_or_lt_of_le hjk with rfl | hlt
  · omega
  · have := List.pairwise_iff_getElem.1 hr j k (by omega) hk hlt
    omega
def midS (f : List Rw → Int) (l : List Rw) (p q : Nat) : Int := f ((l.drop p).take (q - p))
theorem mid_add (l : List Rw) {p q t : Nat} (h1 : p ≤ q) (h2 : q ≤ t) : (l.drop p).take (t - p) = (l.drop p).take (q - p) ++ (l.drop q).take (t - q) := by
  have e : t - p = (q - p) + (t - q) := by omega
  rw [e, List.take_add, List.drop_drop, show p + (q - p) = q by omega]
/-- What the program tells of two marks of a sheet, the first one not below the second one; and of them the other way around. -/
theorem btw_down {i r c : Int} {l : List Rw} (h0 : chkF i r c l = 0) {a b : Int} {p q : Nat} (ha : atF c a l = (p : Int)) (hb : atF c b l = (q : Int)) (hpq : p ≤ q) :
    btwF i r c l a b = (⟨a, b, midS loSum l p q, midS hiSum l p q⟩, 0) ∧ btwF i r c l b a = (⟨b, a, - midS hiSum l p q, - midS loSum l p q⟩, 0) := by
  have e1 : ¬ endsF i r c l a b ≠ 0 := by
    unfold endsF
    rw [if_neg (by simpa using h0), ha, hb, if_neg (by omega)]; decide
  have e2 : ¬ endsF i r c l b a ≠ 0 := by
    unfold endsF
    rw [if_neg (by simpa using h0), ha, hb, if_neg (by omega)]; decide
  rw [btw_same, btw_same]
  unfold rbtwF
  rw [if_neg e1, if_neg e2, ha, hb]
  simp only [Int.toNat_natCast]
  rw [if_neg (by omega)]
  have em1 : midF l p q = (l.drop p).take (q - p) := by unfold midF; rw [show min p q = p by omega, show max p q = q by omega]
  have em2 : midF l q p = (l.drop p).take (q - p) := by unfold midF; rw [show min q p = p by omega, show max q p = q by omega]
  rw [em1, em2]
  refine ⟨rfl, ?_⟩
  by_cases h : (p : Int) < q
  · rw [if_pos h]; rfl
  · have : q - p = 0 := by omega
    rw [if_neg h, this]
    simp [midS, loSum, hiSum, this]
theorem mid_bound {l : List Rw} (hv : okAll l = true) (hl : l.length ≤ 400) (p q : Nat) : (0 ≤ midS loSum l p q ∧ midS loSum l p q ≤ 400000) ∧ (0 ≤ midS hiSum l p q ∧ midS hiSum l p q ≤ 400000) := by
  have hv' : okAll ((l.drop p).take (q - p)) = true := by
    unfold okAll at hv ⊢
    rw [List.all_eq_true] at hv ⊢
    exact fun a ha => hv a (List.mem_of_mem_drop (List.mem_of_mem_take ha))
  have h1 := loSum_bound _ hv'
  have h2 := hiSum_bound _ hv'
  have h3 : ((l.drop p).take (q - p)).length ≤ 400 := by simp; omega
  unfold midS
  omega
theorem mid_sum (l : List Rw) {p q t : Nat} (h1 : p ≤ q) (h2 : q ≤ t) : midS loSum l p t = midS loSum l p q + midS loSum l q t ∧ midS hiSum l p t = midS hiSum l p q + midS hiSum l q t := by
  unfold midS
  rw [mid_add l h1 h2, loSum_app, hiSum_app]
  exact ⟨rfl, rfl⟩
/-- Without marks no mark stands in a sheet. -/
theorem no_marks {i r c : Int} {l : List Rw} (h : shMarks i r c l = []) (a b : Int) : (btwF i r c l a b).2 ≠ 0 := by
  have e : endsF i r c l a b ≠ 0 := by
    unfold endsF
    by_cases h0 : chkF i r c l = 0
    · rw [if_neg (by simpa using h0)]
      have hm : marksF c l = [] := by unfold shMarks at h; rw [if_pos h0] at h; exact h
      have : atF c a l = -1 := by
        rcases at_ge c a l with h1 | ⟨p, h1, _⟩
        · exact h1
        · obtain ⟨hp, hk, _⟩ := at_row (chk_core h0).1 h1
          have := at_marks c l p hp hk
          rw [hm] at this; cases this
      rw [if_pos (.inl this)]; decide
    · rw [if_pos h0]; exact h0
  unfold btwF
  rw [if_pos e]; exact e
end Go.Proofs.YtomiigdpggeacaaDoor
