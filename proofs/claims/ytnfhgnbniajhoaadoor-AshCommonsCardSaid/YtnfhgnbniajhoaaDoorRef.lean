/- The values that the grains of ashes have in common, by the document: one ash. -/
import Derived.Test.YtnfhgnbniajhoaaDoorCommon3
namespace Go.Proofs.YtnfhgnbniajhoaaDoor
open Go Go.Em
set_option maxRecDepth 100000
/-- Three bands, the first so many of them cut; the first ash's are taken first. -/
def combR (z : Bool) (j : Nat) (g a : G3) : G3 := ⟨if 0 < j then isect (if z then a.a else g.a) a.a else g.a, if 1 < j then isect (if z then a.b else g.b) a.b else g.b, if 2 < j then isect (if z then a.c else g.c) a.c else g.c⟩
def JI (p q : Nat) (l : List As) (i : Nat) (g a : G3) (k : Nat) (s : St) : Prop := ∃ (x : Env 68) (h : Heap) (j : Nat), s = ⟨x.l, h, []⟩ ∧ j + k = 3 ∧ x.v 0 = assD l ∧ x.v 5 = D.int i ∧ x.v 6 = D.int j ∧ x.v 2 = .ptr p 0 ∧ x.v 4 = .ptr q 0 ∧
  h.get p = some (.cells 26 (g3C zero3)) ∧ h.get q = some (.cells 26 (g3C (combR (i == 0) j g a))) ∧ p < h.next ∧ q < h.next ∧ p ≠ q ∧ h.Fr
set_option maxHeartbeats 8000000 in
theorem rin_round (p q : Nat) (l : List As) (i : Nat) (hi : i < l.length) (r : As) (hr : l[i] = r) (g : G3) : ∀ n, 3 ≤ n → ∀ k s, JI p q l i g r.g k s → Res (k8l0.ev ⟨pg, 68, none⟩ (rc pg n) s) (Rnd (JI p q l i g r.g) (fun x s => x = .exit 2 ∧ JI p q l i g r.g 0 s) k) := by
  rintro n hn k s ⟨x, h, j, rfl, hjk, v0, v5, v6, v2, v4, hp, hq, hpn, hqn, hpq, hf⟩
  have hfr : ∀ j, h.raw (h.next + j) = none := fun j => hf _ (by omega)
  have np : ∀ i, (p = h.next + i) = False := fun i => by simp; omega
  have nq : ∀ i, (q = h.next + i) = False := fun i => by simp; omega
  have nq2 : ∀ i, (h.next + i = q) = False := fun i => by simp; omega
  have pq1 : (p = q) = False := by simp; omega
  have pq2 : (q = p) = False := by simp; omega
  simp only [g3C] at hp hq
  simp only [assD] at v0
  rcases (show j = 0 ∨ j = 1 ∨ j = 2 ∨ j = 3 by omega) with rfl | rfl | rfl | rfl
  · by_cases hz : i = 0
    · have hz1 : ((i : Int) == 0) = true := by simp [hz]
      have hz2 : (i == 0) = true := by simp [hz]
      rw [hz2] at hq
      simp [k8l0, v0, v5, v6, v2, v4, hp, hq, hi, hr, asD, D.cells, D.one, hfr, Nat.add_assoc, combR, np, nq, nq2, pq1, pq2, hids_at, hz1]
      refine ⟨k - 1, by omega, _, _, 1, rfl, by omega, by simp [v0, assD], by simp [v5], by simp <;> rfl, by simp [v2], by simp [v4], by simp [hp, pq1, pq2, np, nq, g3C], by simp [hz2, g3C, combR, isect, As.g], by simp; omega, by simp; omega, hpq, ?_⟩
      repeat' first | exact hf | apply Heap.Fr.bump | apply Heap.Fr.set
      all_goals (simp <;> omega)
    · have hz1 : ((i : Int) == 0) = false := by simp; omega
      have hz2 : (i == 0) = false := by simp [hz]
      rw [hz2] at hq
      simp [k8l0, v0, v5, v6, v2, v4, hp, hq, hi, hr, asD, D.cells, D.one, hfr, Nat.add_assoc, combR, np, nq, nq2, pq1, pq2, hids_at, hz1]
      refine ⟨k - 1, by omega, _, _, 1, rfl, by omega, by simp [v0, assD], by simp [v5], by simp <;> rfl, by simp [v2], by simp [v4], by simp [hp, pq1, pq2, np, nq, g3C], by simp [hz2, g3C, combR, isect, As.g], by simp; omega, by simp; omega, hpq, ?_⟩
      repeat' first | exact hf | apply Heap.Fr.bump | apply Heap.Fr.set
      all_goals (simp <;> omega)
  · by_cases hz : i = 0
    · have hz1 : ((i : Int) == 0) = true := by simp [hz]
      have hz2 : (i == 0) = true := by simp [hz]
      rw [hz2] at hq
      simp [k8l0, v0, v5, v6, v2, v4, hp, hq, hi, hr, asD, D.cells, D.one, hfr, Nat.add_assoc, combR, np, nq, nq2, pq1, pq2, hids_at, hz1]
      refine ⟨k - 1, by omega, _, _, 2, rfl, by omega, by simp [v0, assD], by simp [v5], by simp <;> rfl, by simp [v2], by simp [v4], by simp [hp, pq1, pq2, np, nq, g3C], by simp [hz2, g3C, combR, isect, As.g], by simp; omega, by simp; omega, hpq, ?_⟩
      repeat' first | exact hf | apply Heap.Fr.bump | apply Heap.Fr.set
      all_goals (simp <;> omega)
    · have hz1 : ((i : Int) == 0) = false := by simp; omega
      have hz2 : (i == 0) = false := by simp [hz]
      rw [hz2] at hq
      simp [k8l0, v0, v5, v6, v2, v4, hp, hq, hi, hr, asD, D.cells, D.one, hfr, Nat.add_assoc, combR, np, nq, nq2, pq1, pq2, hids_at, hz1]
      refine ⟨k - 1, by omega, _, _, 2, rfl, by omega, by simp [v0, assD], by simp [v5], by simp <;> rfl, by simp [v2], by simp [v4], by simp [hp, pq1, pq2, np, nq, g3C], by simp [hz2, g3C, combR, isect, As.g], by simp; omega, by simp; omega, hpq, ?_⟩
      repeat' first | exact hf | apply Heap.Fr.bump | apply Heap.Fr.set
      all_goals (simp <;> omega)
  · by_cases hz : i = 0
    · have hz1 : ((i : Int) == 0) = true := by simp [hz]
      have hz2 : (i == 0) = true := by simp [hz]
      rw [hz2] at hq
      simp [k8l0, v0, v5, v6, v2, v4, hp, hq, hi, hr, asD, D.cells, D.one, hfr, Nat.add_assoc, combR, np, nq, nq2, pq1, pq2, hids_at, hz1]
      refine ⟨k - 1, by omega, _, _, 3, rfl, by omega, by simp [v0, assD], by simp [v5], by simp <;> rfl, by simp [v2], by simp [v4], by simp [hp, pq1, pq2, np, nq, g3C], by simp [hz2, g3C, combR, isect, As.g], by simp; omega, by simp; omega, hpq, ?_⟩
      repeat' first | exact hf | apply Heap.Fr.bump | apply Heap.Fr.set
      all_goals (simp <;> omega)
    · have hz1 : ((i : Int) == 0) = false := by simp; omega
      have hz2 : (i == 0) = false := by simp [hz]
      rw [hz2] at hq
      simp [k8l0, v0, v5, v6, v2, v4, hp, hq, hi, hr, asD, D.cells, D.one, hfr, Nat.add_assoc, combR, np, nq, nq2, pq1, pq2, hids_at, hz1]
      refine ⟨k - 1, by omega, _, _, 3, rfl, by omega, by simp [v0, assD], by simp [v5], by simp <;> rfl, by simp [v2], by simp [v4], by simp [hp, pq1, pq2, np, nq, g3C], by simp [hz2, g3C, combR, isect, As.g], by simp; omega, by simp; omega, hpq, ?_⟩
      repeat' first | exact hf | apply Heap.Fr.bump | apply Heap.Fr.set
      all_goals (simp <;> omega)
  · simp [k8l0, v6]
    exact ⟨_, _, 3, rfl, by omega, by simp [v0, assD], by simp [v5], by simp [v6], by simp [v2], by simp [v4], by simp [hp, g3C], by simp [hq, g3C], by simp; omega, by simp; omega, hpq, by apply Heap.Fr.bump; exact hf⟩
end Go.Proofs.YtnfhgnbniajhoaaDoor
/- The values that the grains of ashes have in common, by the document: all ashes. -/
namespace Go.Proofs.YtnfhgnbniajhoaaDoor
open Go Go.Em
set_option maxRecDepth 100000
def fol (g : G3) (l : List As) : G3 := l.foldl (fun g a => comb 3 g a.g) g
theorem fol_cons (g : G3) (a : As) (l : List As) : fol g (a :: l) = fol (comb 3 g a.g) l := rfl
def refG : List As → G3
  | [] => zero3
  | a :: l => fol a.g (a :: l)
theorem combR_eq (z : Bool) (g a : G3) : combR z 3 g a = comb 3 (if z then a else g) a := by cases z <;> rfl
def RO (p q : Nat) (l : List As) (k : Nat) (s : St) : Prop := ∃ (x : Env 68) (h : Heap) (i : Nat) (g : G3), s = ⟨x.l, h, []⟩ ∧ i + k = l.length ∧ x.v 0 = assD l ∧ x.v 5 = D.int i ∧ x.v 2 = .ptr p 0 ∧ x.v 4 = .ptr q 0 ∧
  h.get p = some (.cells 26 (g3C zero3)) ∧ h.get q = some (.cells 26 (g3C g)) ∧ ((i = 0 ∧ g = zero3) ∨ (0 < i ∧ refG l = fol g (l.drop i))) ∧ p < h.next ∧ q < h.next ∧ p ≠ q ∧ h.Fr
set_option maxHeartbeats 4000000 in
theorem rout_round (p q : Nat) (l : List As) (hl : l.length ≤ 9223372036854775807) : ∀ n, 10 ≤ n → ∀ k s, RO p q l k s → Res (k8l1.ev ⟨pg, 68, none⟩ (rc pg n) s) (Rnd (RO p q l) (fun x s => x = .exit 0 ∧ RO p q l 0 s) k) := by
  rintro n hn k s ⟨x, h, i, g, rfl, hik, v0, v5, v2, v4, hp, hq, ho, hpn, hqn, hpq, hf⟩
  simp only [assD] at v0
  have hfr : ∀ j, h.raw (h.next + j) = none := fun j => hf _ (by omega)
  by_cases hlt : i < l.length
  · obtain ⟨r, hr⟩ : ∃ r, l[i] = r := ⟨l[i], rfl⟩
    have hd : l.drop i = r :: l.drop (i + 1) := by rw [List.drop_eq_getElem_cons hlt, hr]
    have hw1 : IntKind.i64.wrap ((i : Int) + 1) = (i : Int) + 1 := wrap_i64 (by omega) (by omega)
    simp [k8l1, v0, v5, hlt, ev_loop]
    refine Res.after2 (lp_rule 3 (JI p q l i g r.g) (fun x s => x = .exit 2 ∧ JI p q l i g r.g 0 s) (rin_round p q l i hlt r hr g) 3 n _ (by omega)
      ⟨_, _, 0, rfl, by omega, by simp [v0, assD], by simp [v5], by simp, by simp [v2], by simp [v4], by simp [hp], by simp [hq, combR], by simp; omega, by simp; omega, hpq, ?_⟩) ?_
    · repeat' first | exact hf | apply Heap.Fr.bump | apply Heap.Fr.set
      all_goals (simp <;> omega)
    rintro xx ss ⟨rfl, X, h2, j, rfl, hj, u0, u5, u6, u2, u4, up, uq, upn, uqn, _, uf⟩
    obtain rfl : j = 3 := by omega
    rw [combR_eq] at uq
    simp [u5, hw1]
    refine ⟨k - 1, by omega, _, _, i + 1, comb 3 (if (i == 0) = true then r.g else g) r.g, rfl, by omega, by simp [u0], by simp, by simp [u2], by simp [u4], by simp [up], by simpa using uq, .inr ⟨by omega, ?_⟩, by simp; omega, by simp; omega, hpq, by repeat' first | exact uf | apply Heap.Fr.bump⟩
    rcases ho with ⟨rfl, rfl⟩ | ⟨h0, ho⟩
    · have hl2 : l = r :: l.drop 1 := by simpa using hd
      rw [hl2]; rfl
    · have hz : (i == 0) = false := by simp; omega
      rw [ho, hd, fol_cons, hz]; rfl
  · simp [k8l1, v0, v5, hlt]
    exact ⟨_, _, i, g, rfl, by omega, by simp [v0, assD], by simp [v5], by simp [v2], by simp [v4], by simp [hp], by simp [hq], ho, by simp; omega, by simp; omega, hpq, hf.bump _⟩
def KI (p q : Nat) (l : List As) (g : G3) (k : Nat) (s : St) : Prop := ∃ (x : Env 68) (h : Heap) (j : Nat), s = ⟨x.l, h, []⟩ ∧ j + k = 3 ∧ x.v 0 = assD l ∧ x.v 8 = D.int j ∧ x.v 2 = .ptr p 0 ∧ x.v 4 = .ptr q 0 ∧
  h.get p = some (.cells 26 (g3C zero3)) ∧ h.get q = some (.cells 26 (g3C g)) ∧ badJ j g = false ∧ (0 < j → l ≠ []) ∧ p ≠ q
def KQ (p q : Nat) (l : List As) (g : G3) (x : Ex) (s : St) : Prop :=
  (x = .exit 4 ∧ KI p q l g 0 s) ∨ (x = .ret ∧ (l = [] ∨ badJ 3 g = true) ∧ ∃ (x : Env 68) (h : Heap), s = ⟨x.l, h, []⟩ ∧ x.v 2 = .ptr p 0 ∧ x.v 3 = D.bool false ∧ h.get p = some (.cells 26 (g3C zero3)))
set_option maxHeartbeats 8000000 in
theorem chk_round (p q : Nat) (l : List As) (g : G3) : ∀ n, 3 ≤ n → ∀ k s, KI p q l g k s → Res (k8l2.ev ⟨pg, 68, none⟩ (rc pg n) s) (Rnd (KI p q l g) (KQ p q l g) k) := by
  rintro n hn k s ⟨x, h, j, rfl, hjk, v0, v8, v2, v4, hp, hq, hb, hne, hpq⟩
  simp only [g3C] at hp hq
  have pq1 : (p = q) = False := by simp; omega
  have pq2 : (q = p) = False := by simp; omega
  simp only [assD] at v0
  cases l with
  | nil =>
    obtain rfl : j = 0 := by
      by_cases h0 : 0 < j
      · exact absurd rfl (hne h0)
      · omega
    simp at v0
    simp [k8l2, v0, v8, v2, v4, hp, D.cells, D.one]
    exact .inr ⟨rfl, .inl rfl, _, _, rfl, by simp [v2], by simp, by simp [g3C, zero3]⟩
  | cons r l =>
    simp at v0
    have h0 : ((l.length : Int) + 1 == 0) = false := by simp; omega
    rcases (show j = 0 ∨ j = 1 ∨ j = 2 ∨ j = 3 by omega) with rfl | rfl | rfl | rfl
    · by_cases hbad : g.a.hi < g.a.lo
      · have hbad' : bad g.a = true := decide_eq_true hbad
        simp [k8l2, v0, v8, v2, v4, hp, hq, h0, D.cells, D.one, hbad]
        exact .inr ⟨rfl, .inr (by simp [badJ, hbad']), _, _, rfl, by simp [v2], by simp, by simp [g3C, zero3]⟩
      · have hbad' : bad g.a = false := decide_eq_false hbad
        simp [k8l2, v0, v8, v2, v4, hp, hq, h0, D.cells, D.one, hbad]
        exact ⟨k - 1, by omega, _, _, 1, rfl, by omega, by simp [v0, assD], by simp <;> rfl, by simp [v2], by simp [v4], by simp [hp, g3C], by simp [hq, g3C], by simp [badJ, hbad'], by simp, hpq⟩
    · simp [badJ] at hb
      by_cases hbad : g.b.hi < g.b.lo
      · have hbad' : bad g.b = true := decide_eq_true hbad
        simp [k8l2, v0, v8, v2, v4, hp, hq, h0, D.cells, D.one, hbad]
        exact .inr ⟨rfl, .inr (by simp [badJ, hbad']), _, _, rfl, by simp [v2], by simp, by simp [g3C, zero3]⟩
      · have hbad' : bad g.b = false := decide_eq_false hbad
        simp [k8l2, v0, v8, v2, v4, hp, hq, h0, D.cells, D.one, hbad]
        exact ⟨k - 1, by omega, _, _, 2, rfl, by omega, by simp [v0, assD], by simp <;> rfl, by simp [v2], by simp [v4], by simp [hp, g3C], by simp [hq, g3C], by simp [badJ, hb, hbad'], by simp, hpq⟩
    · simp [badJ] at hb
      by_cases hbad : g.c.hi < g.c.lo
      · have hbad' : bad g.c = true := decide_eq_true hbad
        simp [k8l2, v0, v8, v2, v4, hp, hq, h0, D.cells, D.one, hbad]
        exact .inr ⟨rfl, .inr (by simp [badJ, hbad']), _, _, rfl, by simp [v2], by simp, by simp [g3C, zero3]⟩
      · have hbad' : bad g.c = false := decide_eq_false hbad
        simp [k8l2, v0, v8, v2, v4, hp, hq, h0, D.cells, D.one, hbad]
        exact ⟨k - 1, by omega, _, _, 3, rfl, by omega, by simp [v0, assD], by simp <;> rfl, by simp [v2], by simp [v4], by simp [hp, g3C], by simp [hq, g3C], by simp [badJ, hb, hbad'], by simp, hpq⟩
    · simp [k8l2, v8]
      exact .inl ⟨rfl, _, _, 3, rfl, by omega, by simp [v0, assD], by simp [v8], by simp [v2], by simp [v4], by simp [hp, g3C], by simp [hq, g3C], hb, by simp, hpq⟩
def refF (l : List As) : G3 × Bool := if l = [] ∨ badJ 3 (refG l) = true then (zero3, false) else (refG l, true)
set_option maxHeartbeats 4000000 in
theorem rcommon_run (l : List As) (hl : l.length ≤ 9223372036854775807) {n : Nat} (hn : l.length + 20 ≤ n) : pureCall (rc pg n) 8 [assD l] = some (.ret (comD (refF l))) := by
  obtain ⟨m, rfl, e⟩ := body (pg := pg) (f := 8) (args := [assD l]) (show 0 < n by omega) rfl rfl
  rw [e]
  simp [k8, Env.v_ini, ev_loop]
  refine Res.endsAfter (lp_rule 10 (RO 2 72 l) (fun x s => x = .exit 0 ∧ RO 2 72 l 0 s) (rout_round 2 72 l hl) l.length m _ (by omega)
    ⟨_, _, 0, zero3, rfl, by omega, by simp [Env.v_ini, assD], by simp, by simp, by simp, by simp [g3C, zero3], by simp [g3C, zero3], .inl ⟨rfl, rfl⟩, by simp, by simp, by omega, ?_⟩) ?_
  · repeat' first | exact Heap.Fr.empty | apply Heap.Fr.bump | apply Heap.Fr.set
    all_goals (simp <;> omega)
  rintro x s ⟨rfl, x, h, i, g, rfl, hi, v0, v5, v2, v4, hp, hq, ho, _⟩
  have hg : g = refG l := by
    rcases ho with ⟨rfl, rfl⟩ | ⟨h0, ho⟩
    · obtain rfl : l = [] := List.eq_nil_of_length_eq_zero (by omega)
      rfl
    · rw [ho, show i = l.length by omega, List.drop_length]; rfl
  subst hg
  simp [ev_loop]
  refine Res.endsAfter (lp_rule 3 (KI 2 72 l (refG l)) (KQ 2 72 l (refG l)) (chk_round 2 72 l (refG l)) 3 m _ (by omega)
    ⟨_, _, 0, rfl, by omega, by simp [v0], by simp, by simp [v2], by simp [v4], by simp [hp], by simp [hq], by simp [badJ], by simp, by omega⟩) ?_
  rintro x s (⟨rfl, x, h, j, rfl, hj, u0, u8, u2, u4, up, uq, ub, une, _⟩ | ⟨rfl, ub, x, h, rfl, u2, u3, up⟩)
  · obtain rfl : j = 3 := by omega
    have e1 : refF l = (refG l, true) := by unfold refF; rw [if_neg]; rintro (h1 | h1); exact une (by omega) h1; rw [ub] at h1; cases h1
    simp only [g3C] at uq up
    simp [u4, u2, uq, up, e1, comD, g3C, D.cells, D.one]
  · have e1 : refF l = (zero3, false) := by unfold refF; rw [if_pos ub]
    simp [u2, u3, up, e1, comD, g3C]
/-- What is bad stays bad. -/
theorem bad_isect {x y : Bd} (h : bad x = true) : bad (isect x y) = true := by
  have h := of_decide_eq_true h
  exact decide_eq_true (show min x.hi y.hi < max x.lo y.lo by omega)
theorem bad_comb {g a : G3} (h : badJ 3 g = true) : badJ 3 (comb 3 g a) = true := by
  simp [badJ] at h
  rcases h with (h | h) | h <;> simp [badJ, comb, bad_isect h]
theorem bad_fol : ∀ (l : List As) (g : G3), badJ 3 g = true → badJ 3 (fol g l) = true
  | [], g, h => h
  | a :: l, g, h => bad_fol l _ (bad_comb h)
theorem com_fol : ∀ (l : List As) (g : G3), badJ 3 g = false → comL g l = if badJ 3 (fol g l) = true then none else some (fol g l)
  | [], g, h => by unfold fol comL; rw [List.foldl_nil, h]; rfl
  | a :: l, g, h => by
    rw [comL_cons, fol_cons]
    cases hb : badJ 3 (comb 3 g a.g) with
    | true => rw [if_pos rfl, if_pos (bad_fol l _ hb)]
    | false => rw [if_neg (by simp)]; exact com_fol l _ hb
/-- Both answer the same. -/
theorem com_ref (l : List As) : comF l = refF l := by
  cases l with
  | nil => rfl
  | cons a l =>
    show (match comL a.g (a :: l) with | some g => (g, true) | none => (zero3, false)) = if a :: l = [] ∨ badJ 3 (fol a.g (a :: l)) = true then (zero3, false) else (fol a.g (a :: l), true)
    rw [comL_cons, fol_cons]
    cases hb : badJ 3 (comb 3 a.g a.g) with
    | true => rw [if_pos rfl, if_pos (.inr (bad_fol l _ hb))]
    | false =>
      rw [if_neg (by simp), com_fol l _ hb]
      cases hc : badJ 3 (fol (comb 3 a.g a.g) l) with
      | true => simp
      | false => simp
end Go.Proofs.YtnfhgnbniajhoaaDoor
