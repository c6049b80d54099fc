/- One more claim: the net that grows is the closure of all claims. -/
import Derived.Test.YtlkpikdfbodhoaaDoorEmNet
import Derived.Test.YtlkpikdfbodhoaaDoorRoom
namespace Go.Proofs.YtlkpikdfbodhoaaDoor
open Go Go.Em Go.Em.Net
set_option maxRecDepth 100000
def rpF (M M' : List Int) (p : Nat) : Option Nat := match M'[p]? with
  | some v => if v ∈ M then some (placeF M v) else none
  | none => none
theorem rp_some {M M' : List Int} {p i : Nat} (h : rpF M M' p = some i) : ∃ v, M'[p]? = some v ∧ v ∈ M ∧ placeF M v = i := by
  unfold rpF at h
  split at h
  · rename_i v hv
    split at h
    · rename_i hm
      exact ⟨v, hv, hm, Option.some.inj h⟩
    · cases h
  · cases h
theorem rp_of {M M' : List Int} {v : Int} (h : v ∈ M) (h' : v ∈ M') : rpF M M' (placeF M' v) = some (placeF M v) := by
  obtain ⟨h1, h2⟩ := place_at h'
  unfold rpF
  rw [List.getElem?_eq_getElem h1, h2]
  simp [h]
end Go.Proofs.YtlkpikdfbodhoaaDoor
/- A net with further marks, and over one of them: the program's numbers. -/
namespace Go.Proofs.YtlkpikdfbodhoaaDoor
open Go Go.Em Go.Em.Net
set_option maxRecDepth 100000
theorem lowV_O : lowV = lowO := by funext o v; cases o <;> rfl
theorem Lw_low (W : Mx) {a b : Nat} (hne : a ≠ b) (e f : Int) : Lw W a b e f = lowM (lowM W ⟨0, false, a, b, e⟩) ⟨0, true, b, a, f⟩ := by
  have : (setM W a b (lowO (W a b) e)) b a = W b a := if_neg fun k => hne k.1.symm
  unfold lowM Lw
  simp only [lowV_O, this]
theorem comb_bd {N : Mx} {B : Int} (h : ∀ i j z, N i j = some z → -B ≤ z ∧ z ≤ B) (hB : 0 ≤ B) {k i j : Nat} {z : Int} (e : comb N k i j = some z) : -(2 * B) ≤ z ∧ z ≤ 2 * B := by
  rcases comb_or e with e | ⟨a, b, e1, e2, rfl⟩
  · have := h _ _ _ e; omega
  · have := h _ _ _ e1
    have := h _ _ _ e2
    omega
theorem tame1 {n k : Nat} {N : Mx} (hk : N k k = some 0) (ho : Out n N) (hkn : k < n) (h1 : Bt N) (h2 : Bt (comb N k)) : (∀ I, I < n → stageI n k (encM N) I I k ≠ 1000000000 → ∀ J, J ≤ n → ∀ a b, -1000000000000 ≤ rowI k I (stageI n k (encM N) I) J a b ∧ rowI k I (stageI n k (encM N) I) J a b ≤ 1000000000000) ∧ stageI n k (encM N) n = encM (comb N k) := by
  refine ⟨fun I hI => ?_, ?_⟩
  · obtain ⟨e, b1, b2, b3, b4⟩ := stageI_enc hk ho hkn h1 h2 I
    rw [e]
    intro hne J _ a b
    cases hc : stageT n k N I I k with
    | none => exact absurd ((enc_far b1).2 hc) hne
    | some c =>
      obtain ⟨e2, b5⟩ := rowI_enc b2 hc b1 (b4 c hc) J
      rw [e2]
      exact enc_bd b5 a b
  · rw [(stageI_enc hk ho hkn h1 h2 n).1, stage_full hk ho hkn]
def wA (M M' : List Int) (A : Nat → Nat → Int) (i j : Nat) : Nat → Nat → Int := fun p q => match rpF M M' p, rpF M M' q with
  | some i', some j' => if i' < i ∨ (i' = i ∧ j' < j) then A i' j' else far0 p q
  | _, _ => far0 p q
theorem wA_zero (M M' : List Int) (A : Nat → Nat → Int) : wA M M' A 0 0 = far0 := by
  funext p q
  unfold wA
  split
  · rw [if_neg (by omega)]
  · rfl
theorem rp_lt {M M' : List Int} {p i : Nat} (h : rpF M M' p = some i) : i < M.length := by
  obtain ⟨v, _, h2, h3⟩ := rp_some h
  rw [← h3]; exact (place_at h2).1
theorem wA_row (M M' : List Int) (A : Nat → Nat → Int) (i : Nat) : wA M M' A i M.length = wA M M' A (i + 1) 0 := by
  funext p q
  unfold wA
  split
  · rename_i i' j' _ h2
    have := rp_lt h2
    by_cases h : i' < i ∨ (i' = i ∧ j' < M.length)
    · rw [if_pos h, if_pos (by omega)]
    · rw [if_neg h, if_neg (by omega)]
  · rfl
theorem rp_back {M M' : List Int} (hM' : Rise M') {p i : Nat} (hi : i < M.length) (h : rpF M M' p = some i) : p = placeF M' M[i] := by
  obtain ⟨v, h1, h2, h3⟩ := rp_some h
  have hp : p < M'.length := Decidable.byContradiction fun hn => by rw [List.getElem?_eq_none (by omega)] at h1; cases h1
  have e : M[i] = v := by
    have := (place_at h2).2
    simpa [h3] using this
  rw [List.getElem?_eq_getElem hp] at h1
  rw [e, ← Option.some.inj h1, place_self hM' hp]
theorem wA_step {M M' : List Int} (hM : Rise M) (hM' : Rise M') (hs : ∀ v, v ∈ M → v ∈ M') (A : Nat → Nat → Int) {i j : Nat} (hi : i < M.length) (hj : j < M.length) : wA M M' A i (j + 1) = updA (wA M M' A i j) (placeF M' M[i]) (placeF M' M[j]) (A i j) := by
  funext p q
  unfold updA
  by_cases h : p = placeF M' M[i] ∧ q = placeF M' M[j]
  · rw [if_pos h]
    have e1 : rpF M M' p = some i := by rw [h.1, rp_of (List.getElem_mem hi) (hs _ (List.getElem_mem hi)), place_self hM hi]
    have e2 : rpF M M' q = some j := by rw [h.2, rp_of (List.getElem_mem hj) (hs _ (List.getElem_mem hj)), place_self hM hj]
    unfold wA
    simp only [e1, e2]
    rw [if_pos (.inr ⟨trivial, by omega⟩)]
  · rw [if_neg h]
    unfold wA
    split
    · rename_i i' j' h1 h2
      by_cases hb : i' < i ∨ (i' = i ∧ j' < j)
      · rw [if_pos (by omega), if_pos hb]
      · rw [if_neg hb, if_neg]
        rintro (g | ⟨rfl, g⟩)
        · exact hb (.inl g)
        · have : j' = j := by omega
          subst this
          exact h ⟨rp_back hM' hi h1, rp_back hM' hj h2⟩
    · rfl
theorem wA_ext {M M' : List Int} {C : Mx} (hM : Rise M) (c : Cl M.length C) {p q : Nat} (hp : p < M'.length) (hq : q < M'.length) : wA M M' (encM C) M.length 0 p q = encM (Net.Ext M'.length (rpF M M') C) p q := by
  unfold wA encM Net.Ext
  rw [if_pos ⟨hp, hq⟩]
  cases e1 : rpF M M' p with
  | none =>
    by_cases h : p = q
    · subst h; simp [far0, enc]
    · simp [far0, enc, h, Ne.symm h]
  | some i =>
    cases e2 : rpF M M' q with
    | none =>
      by_cases h : p = q
      · subst h; simp [far0, enc]
      · simp [far0, enc, h, Ne.symm h]
    | some j =>
      have hi := rp_lt e1
      simp only
      rw [if_pos (.inl hi)]
      by_cases h : p = q
      · subst h
        rw [e1] at e2
        obtain rfl := Option.some.inj e2
        rw [c.diag i hi, if_pos rfl]
      · rw [if_neg h]
end Go.Proofs.YtlkpikdfbodhoaaDoor
