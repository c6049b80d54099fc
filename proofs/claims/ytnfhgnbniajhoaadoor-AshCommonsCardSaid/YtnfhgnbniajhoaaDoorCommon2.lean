/- The values that the grains of ashes have in common, by the program: all ashes. -/
import Derived.Test.YtnfhgnbniajhoaaDoorCommon
namespace Go.Proofs.YtnfhgnbniajhoaaDoor
open Go Go.Em
set_option maxRecDepth 100000
theorem Res.after2 {o : Option (Ex × St)} {i j : Nat} {k : St → Option (Ex × St)} {P Q : Ex → St → Prop} (h : Res o P) (hk : ∀ x s, P x s → Res (andThen (blockK i (blockK j (some (x, s)))) k) Q) : Res (andThen (blockK i (blockK j o)) k) Q := by
  obtain ⟨x, s, rfl, p⟩ := h; exact hk x s p
/-- What is in common, if there is anything. -/
def comL : G3 → List As → Option G3
  | g, [] => some g
  | g, a :: l => if badJ 3 (comb 3 g a.g) = true then none else comL (comb 3 g a.g) l
theorem comL_cons (g : G3) (a : As) (l : List As) : comL g (a :: l) = if badJ 3 (comb 3 g a.g) = true then none else comL (comb 3 g a.g) l := rfl
theorem as_canon : ∀ l : List As, D.canonL (l.map asD) = true := canonL_map asD (fun x => by simp [asD])
def OI (p q : Nat) (g0 : G3) (l : List As) (k : Nat) (s : St) : Prop := ∃ (x : Env 45) (h : Heap) (i : Nat) (g : G3), s = ⟨x.l, h, []⟩ ∧ i + k = l.length ∧ x.v 17 = assD l ∧ x.v 18 = D.int l.length ∧ x.v 19 = D.int i ∧ x.v 2 = .ptr p 0 ∧ x.v 4 = .ptr q 0 ∧
  h.get p = some (.cells 26 (g3C zero3)) ∧ h.get q = some (.cells 26 (g3C g)) ∧ comL g0 l = comL g (l.drop i) ∧ p < h.next ∧ q < h.next ∧ p ≠ q ∧ h.Fr
def OQ (p q : Nat) (g0 : G3) (l : List As) (x : Ex) (s : St) : Prop :=
  (x = .exit 0 ∧ OI p q g0 l 0 s) ∨ (x = .ret ∧ comL g0 l = none ∧ ∃ (x : Env 45) (h : Heap), s = ⟨x.l, h, []⟩ ∧ x.v 2 = .ptr p 0 ∧ x.v 3 = D.bool false ∧ h.get p = some (.cells 26 (g3C zero3)))
set_option maxHeartbeats 4000000 in
theorem out_round (p q : Nat) (g0 : G3) (l : List As) (hl : l.length ≤ 9223372036854775807) : ∀ n, 10 ≤ n → ∀ k s, OI p q g0 l k s → Res (k7l1.ev ⟨pg, 45, none⟩ (rc pg n) s) (Rnd (OI p q g0 l) (OQ p q g0 l) k) := by
  rintro n hn k s ⟨x, h, i, g, rfl, hik, v17, v18, v19, v2, v4, hp, hq, ho, hpn, hqn, hpq, hf⟩
  simp only [assD] at v17
  have hfr : ∀ j, h.raw (h.next + j) = none := fun j => hf _ (by omega)
  have np : ∀ i, (p = h.next + i) = False := fun i => by simp; omega
  have nq : ∀ i, (q = h.next + i) = False := fun i => by simp; omega
  by_cases hlt : i < l.length
  · obtain ⟨r, hr⟩ : ∃ r, l[i] = r := ⟨l[i], rfl⟩
    have hd : l.drop i = r :: l.drop (i + 1) := by rw [List.drop_eq_getElem_cons hlt, hr]
    have hw1 : IntKind.i64.wrap ((i : Int) + 1) = (i : Int) + 1 := wrap_i64 (by omega) (by omega)
    rw [hd, comL_cons] at ho
    simp [k7l1, v17, v18, v19, hlt, hr, asD, D.cells, D.one, hfr, Nat.add_assoc, ev_loop]
    refine Res.after2 (lp_rule 3 (NI p q _ g r.g) (NQ p q _ g r.g) (in_round p q _ g r.g) 3 n _ (by omega)
      ⟨_, _, 0, rfl, by omega, by simp [g3C, As.g], by simp, by simp [v2], by simp [v4], rfl, rfl, rfl, by simp [hp, np], by simp [hq, nq, comb], by simp [badJ], by simp; omega, by simp; omega, hpq, ?_⟩) ?_
    · repeat' first | exact hf | apply Heap.Fr.bump | apply Heap.Fr.set
      all_goals (simp <;> omega)
    rintro xx ss (⟨rfl, X, h2, j, rfl, hj, u24, u25, u2, u4, u17, u18, u19, up, uq, ub, upn, uqn, _, uf⟩ | ⟨rfl, ub, X, h2, rfl, u2, u3, up⟩)
    · obtain rfl : j = 3 := by omega
      simp [v17, v18, v19] at u17 u18 u19
      rw [if_neg (by rw [ub]; simp)] at ho
      simp [u19, hw1]
      exact ⟨k - 1, by omega, _, _, i + 1, _, rfl, by omega, by simp [u17, assD], by simp [u18], by simp, by simp [u2], by simp [u4], by simp [up], by simp [uq], ho, by simp; omega, by simp; omega, hpq, uf.bump _⟩
    · rw [if_pos ub] at ho
      simp
      exact .inr ⟨rfl, ho, X, h2, rfl, u2, u3, up⟩
  · simp [k7l1, v18, v19, hlt]
    exact .inl ⟨rfl, _, _, i, g, rfl, by omega, by simp [v17, assD], by simp [v18], by simp [v19], by simp [v2], by simp [v4], by simp [hp], by simp [hq], ho, by simp; omega, by simp; omega, hpq, hf.bump _⟩
end Go.Proofs.YtnfhgnbniajhoaaDoor
