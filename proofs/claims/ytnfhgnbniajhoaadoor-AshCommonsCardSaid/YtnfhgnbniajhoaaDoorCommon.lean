/- The values that the grains of ashes have in common, by the program. -/
import Derived.Test.YtnfhgnbniajhoaaDoorPg
namespace Go.Proofs.YtnfhgnbniajhoaaDoor
open Go Go.Em
set_option maxRecDepth 100000
/-- Three bands, the first so many of them cut. -/
def comb (j : Nat) (g a : G3) : G3 := ⟨if 0 < j then isect g.a a.a else g.a, if 1 < j then isect g.b a.b else g.b, if 2 < j then isect g.c a.c else g.c⟩
def badJ (j : Nat) (g : G3) : Bool := (decide (0 < j) && bad g.a) || (decide (1 < j) && bad g.b) || (decide (2 < j) && bad g.c)
def NI (p q : Nat) (x0 : Env 45) (g a : G3) (k : Nat) (s : St) : Prop := ∃ (x : Env 45) (h : Heap) (j : Nat), s = ⟨x.l, h, []⟩ ∧ j + k = 3 ∧ x.v 24 = .agg (g3C a) ∧ x.v 25 = D.int j ∧ x.v 2 = .ptr p 0 ∧ x.v 4 = .ptr q 0 ∧ x.v 17 = x0.v 17 ∧ x.v 18 = x0.v 18 ∧ x.v 19 = x0.v 19 ∧
  h.get p = some (.cells 26 (g3C zero3)) ∧ h.get q = some (.cells 26 (g3C (comb j g a))) ∧ badJ j (comb j g a) = false ∧ p < h.next ∧ q < h.next ∧ p ≠ q ∧ h.Fr
def NQ (p q : Nat) (x0 : Env 45) (g a : G3) (x : Ex) (s : St) : Prop :=
  (x = .exit 2 ∧ NI p q x0 g a 0 s) ∨ (x = .ret ∧ badJ 3 (comb 3 g a) = true ∧ ∃ (x : Env 45) (h : Heap), s = ⟨x.l, h, []⟩ ∧ x.v 2 = .ptr p 0 ∧ x.v 3 = D.bool false ∧ h.get p = some (.cells 26 (g3C zero3)))
theorem nov_ne {x : Bd} (h : bad x = false) : (x.lo == 1 && x.hi == 0) = false := by
  have h := of_decide_eq_false h
  rw [Bool.and_eq_false_iff, beq_eq_false_iff_ne, beq_eq_false_iff_ne]
  omega
set_option maxHeartbeats 4000000 in
theorem in_round (p q : Nat) (x0 : Env 45) (g a : G3) : ∀ n, 3 ≤ n → ∀ k s, NI p q x0 g a k s → Res (k7l0.ev ⟨pg, 45, none⟩ (rc pg n) s) (Rnd (NI p q x0 g a) (NQ p q x0 g a) k) := by
  rintro n hn k s ⟨x, h, j, rfl, hjk, v24, v25, v2, v4, v17, v18, v19, hp, hq, hb, hpn, hqn, hpq, hf⟩
  have hfr : ∀ j, h.raw (h.next + j) = none := fun j => hf _ (by omega)
  have s1 : pg.sh 27 = false := rfl
  have ib := fun x y => @inboth_run x y n (by omega)
  simp only [bdD] at ib
  have np : ∀ i, (p = h.next + i) = False := fun i => by simp; omega
  have nq : ∀ i, (q = h.next + i) = False := fun i => by simp; omega
  have pq1 : (p = q) = False := by simp; omega
  have pq2 : (q = p) = False := by simp; omega
  simp only [g3C] at v24 hp hq
  rcases (show j = 0 ∨ j = 1 ∨ j = 2 ∨ j = 3 by omega) with rfl | rfl | rfl | rfl
  · by_cases hbad : bad (isect g.a a.a) = true
    · have e2 : inBothF g.a a.a = ⟨1, 0⟩ := by unfold inBothF; rw [if_pos hbad]
      simp [k7l0, v24, v25, v2, v4, hp, hq, D.cells, D.one, hfr, Nat.add_assoc, dcore_f, s1, ib, comb, np, nq, pq1, pq2, hids_at, e2]
      exact .inr ⟨rfl, by simp [badJ, comb, hbad], _, _, rfl, by simp [v2], by simp, by simp [pq1, pq2, np, nq, zero3, g3C]⟩
    · have hbad' : bad (isect g.a a.a) = false := by simpa using hbad
      have e2 : inBothF g.a a.a = isect g.a a.a := by unfold inBothF; rw [if_neg hbad]
      have e3 := nov_ne hbad'
      simp [k7l0, v24, v25, v2, v4, hp, hq, D.cells, D.one, hfr, Nat.add_assoc, dcore_f, s1, ib, comb, np, nq, pq1, pq2, hids_at, e2, e3]
      refine ⟨k - 1, by omega, _, _, 1, rfl, by omega, by simp [v24, g3C], by simp <;> rfl, by simp [v2], by simp [v4], by simp [v17], by simp [v18], by simp [v19], by simp [hp, pq1, pq2, np, nq, g3C], by simp [g3C, comb], ?_, by simp; omega, by simp; omega, hpq, ?_⟩
      · simp [badJ, comb] at hb
        simp [badJ, comb, hbad', hb]
      repeat' first | exact hf | apply Heap.Fr.bump | apply Heap.Fr.set
      all_goals (simp <;> omega)
  · by_cases hbad : bad (isect g.b a.b) = true
    · have e2 : inBothF g.b a.b = ⟨1, 0⟩ := by unfold inBothF; rw [if_pos hbad]
      simp [k7l0, v24, v25, v2, v4, hp, hq, D.cells, D.one, hfr, Nat.add_assoc, dcore_f, s1, ib, comb, np, nq, pq1, pq2, hids_at, e2]
      exact .inr ⟨rfl, by simp [badJ, comb, hbad], _, _, rfl, by simp [v2], by simp, by simp [pq1, pq2, np, nq, zero3, g3C]⟩
    · have hbad' : bad (isect g.b a.b) = false := by simpa using hbad
      have e2 : inBothF g.b a.b = isect g.b a.b := by unfold inBothF; rw [if_neg hbad]
      have e3 := nov_ne hbad'
      simp [k7l0, v24, v25, v2, v4, hp, hq, D.cells, D.one, hfr, Nat.add_assoc, dcore_f, s1, ib, comb, np, nq, pq1, pq2, hids_at, e2, e3]
      refine ⟨k - 1, by omega, _, _, 2, rfl, by omega, by simp [v24, g3C], by simp <;> rfl, by simp [v2], by simp [v4], by simp [v17], by simp [v18], by simp [v19], by simp [hp, pq1, pq2, np, nq, g3C], by simp [g3C, comb], ?_, by simp; omega, by simp; omega, hpq, ?_⟩
      · simp [badJ, comb] at hb
        simp [badJ, comb, hbad', hb]
      repeat' first | exact hf | apply Heap.Fr.bump | apply Heap.Fr.set
      all_goals (simp <;> omega)
  · by_cases hbad : bad (isect g.c a.c) = true
    · have e2 : inBothF g.c a.c = ⟨1, 0⟩ := by unfold inBothF; rw [if_pos hbad]
      simp [k7l0, v24, v25, v2, v4, hp, hq, D.cells, D.one, hfr, Nat.add_assoc, dcore_f, s1, ib, comb, np, nq, pq1, pq2, hids_at, e2]
      exact .inr ⟨rfl, by simp [badJ, comb, hbad], _, _, rfl, by simp [v2], by simp, by simp [pq1, pq2, np, nq, zero3, g3C]⟩
    · have hbad' : bad (isect g.c a.c) = false := by simpa using hbad
      have e2 : inBothF g.c a.c = isect g.c a.c := by unfold inBothF; rw [if_neg hbad]
      have e3 := nov_ne hbad'
      simp [k7l0, v24, v25, v2, v4, hp, hq, D.cells, D.one, hfr, Nat.add_assoc, dcore_f, s1, ib, comb, np, nq, pq1, pq2, hids_at, e2, e3]
      refine ⟨k - 1, by omega, _, _, 3, rfl, by omega, by simp [v24, g3C], by simp <;> rfl, by simp [v2], by simp [v4], by simp [v17], by simp [v18], by simp [v19], by simp [hp, pq1, pq2, np, nq, g3C], by simp [g3C, comb], ?_, by simp; omega, by simp; omega, hpq, ?_⟩
      · simp [badJ, comb] at hb
        simp [badJ, comb, hbad', hb]
      repeat' first | exact hf | apply Heap.Fr.bump | apply Heap.Fr.set
      all_goals (simp <;> omega)
  · simp [k7l0, v25]
    exact .inl ⟨rfl, _, _, 3, rfl, by omega, by simp [v24, g3C], by simp [v25], by simp [v2], by simp [v4], by simp [v17], by simp [v18], by simp [v19], by simp [hp, g3C], by simp [hq, g3C], hb, by simp; omega, by simp; omega, hpq, by apply Heap.Fr.bump; exact hf⟩
end Go.Proofs.YtnfhgnbniajhoaaDoor
