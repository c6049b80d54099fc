/- The document's own closure, in place: what its rounds do to the numbers, as long as no mark was found before itself. -/
import Derived.Test.YtgbkdjlekfjkfaaGreatDoorMul
namespace Go.Proofs.YtgbkdjlekfjkfaaGreatDoor
open Go Go.Em Go.Em.Net
def stR (k i : Nat) (A : Nat → Nat → Int) (j : Nat) : Nat → Nat → Int := if A i k = 1000000000 ∨ A k j = 1000000000 then A else updA A i j (min (A i j) (A i k + A k j))
def rowR (k i : Nat) (A : Nat → Nat → Int) : Nat → Nat → Nat → Int
  | 0 => A
  | J + 1 => stR k i (rowR k i A J) J
theorem stR_enc {N : Mx} (h : Bt N) {k i j : Nat} : stR k i (encM N) j = encM (setM N i j (comb N k i j)) := by
  cases hc : N i k with
  | some c =>
    have hf : ¬ encM N i k = 1000000000 := fun e => by rw [(enc_far h).1 e] at hc; cases hc
    have := st_enc h (j := j) hc
    unfold stI at this
    unfold stR
    by_cases h2 : encM N k j = 1000000000
    · rw [if_pos h2] at this; rw [if_pos (.inr h2)]; exact this
    · rw [if_neg h2] at this; rw [if_neg (by simp [hf, h2])]; exact this
  | none =>
    have hf : encM N i k = 1000000000 := (enc_far h).2 hc
    unfold stR
    rw [if_pos (.inl hf)]
    have : comb N k i j = N i j := by unfold comb; rw [hc]
    rw [this]
    funext a b
    unfold encM setM
    split
    · rename_i e; rw [e.1, e.2]
    · rfl
theorem rowR_enc {M : Mx} {k i : Nat} (hk : M k k = some 0) (h1 : Bt M) (h2 : ∀ b z, comb M k i b = some z → -100000000 ≤ z ∧ z ≤ 100000000) : ∀ J, rowR k i (encM M) J = encM (rowT k i M J) ∧ Bt (rowT k i M J)
  | 0 => ⟨rfl, h1⟩
  | J + 1 => by
    obtain ⟨e, hb⟩ := rowR_enc hk h1 h2 J
    refine ⟨?_, fun a b z hz => ?_⟩
    · rw [rowR, e, stR_enc hb]; rfl
    · rw [rowT_eq hk] at hz
      simp only at hz
      split at hz
      · exact h2 b z hz
      · exact h1 a b z hz
theorem Good.half {n : Nat} {l : List Mo} (g : Good n l) (hn : n ≤ 64) {k : Nat} (hk : k < n) (hd : ∀ q, q ≤ k → ∀ i, i < n → fw (EF n l) q i i = some 0) : Bt (fw (EF n l) k) ∧ Bt (fw (EF n l) (k + 1)) := by
  have kn := kn_EF g.hin
  have hB : ∀ i j c, EF n l i j = some c → -100000 ≤ c ∧ c ≤ 100000 := by
    intro i j c hc
    rcases kn.he i j c hc with ⟨_, rfl⟩ | hm
    · omega
    · obtain ⟨m, hm1, hm2⟩ := List.mem_map.1 hm
      have := g.bd m hm1
      have e : m.mo = c := (Prod.mk.inj (Prod.mk.inj hm2).2).2
      omega
  have hb : ∀ {a b : Nat} {z : Int}, fw (EF n l) k a b = some z → -20000000 ≤ z ∧ z ≤ 20000000 := by
    intro a b z hz
    have := fw_bounds (B := 100000) (by omega) hB g.symE kn.out k (by omega) hd hz
    omega
  refine ⟨fun a b z hz => by have := hb hz; omega, fun a b z hz => ?_⟩
  rcases comb_or hz with e | ⟨x, y, e1, e2, rfl⟩
  · have := hb e; omega
  · have := hb e1; have := hb e2; omega
theorem stageR_row {n k : Nat} {M : Mx} (hk : M k k = some 0) (ho : Out n M) (hkn : k < n) (h1 : Bt M) (h2 : Bt (comb M k)) (I : Nat) : rowR k I (encM (stageT n k M I)) n = encM (stageT n k M (I + 1)) ∧ stageT n k M (I + 1) I I = comb M k I I := by
  obtain ⟨_, b1, b2, b3, _⟩ := stageI_enc hk ho hkn h1 h2 I
  have hcI : ∀ b, comb (stageT n k M I) k I b = comb M k I b := by
    intro b
    rw [stageT_eq hk ho hkn I]
    show (match (if I < I then comb M k I k else M I k), (if k < I then comb M k k b else M k b) with
      | some a, some b' => (match (if I < I then comb M k I b else M I b) with | some c => some (min c (a + b')) | none => some (a + b'))
      | _, _ => (if I < I then comb M k I b else M I b)) = _
    have e2 : (if k < I then comb M k k b else M k b) = M k b := by rw [comb_row hk]; split <;> rfl
    rw [e2, if_neg (Nat.lt_irrefl I), if_neg (Nat.lt_irrefl I)]
    rfl
  refine ⟨(rowR_enc b2 b1 (fun b z hz => by rw [hcI] at hz; exact h2 I b z hz) n).1, ?_⟩
  rw [stageT_eq hk ho hkn (I + 1)]
  simp
end Go.Proofs.YtgbkdjlekfjkfaaGreatDoor
