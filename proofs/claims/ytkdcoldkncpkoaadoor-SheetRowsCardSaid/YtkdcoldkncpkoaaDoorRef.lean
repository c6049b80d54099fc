/- The document's own answers: rows and their years. -/
import Derived.Test.YtkdcoldkncpkoaaDoorCheck2
namespace Go.Proofs.YtkdcoldkncpkoaaDoor
open Go Go.Em
set_option maxRecDepth 100000
theorem rin_run {n : Nat} (hn : 1 ≤ n) (a lo hi : Int) : pureCall (rc pg n) 64 [D.int a, D.int lo, D.int hi] = some (.ret (D.bool (inB a lo hi))) := by
  obtain ⟨m, rfl, e⟩ := body (pg := pg) (f := 64) (args := [D.int a, D.int lo, D.int hi]) hn rfl rfl
  rw [e]
  by_cases h1 : lo ≤ a <;> simp [k64, Env.v_ini, h1, inB]
def rowErr (r : Rw) : Int := if (natF r).valid = true then 0 else 10
theorem kinds_cases (r : Rw) (P : Prop) (h1 : r.k = 1 → P) (h2 : r.k = 2 → P) (h3 : r.k = 3 → P) (h4 : r.k = 4 → P) (h5 : r.k = 5 → P) (h6 : r.k = 6 → P)
    (h0 : (r.k == 1) = false → (r.k == 2) = false → (r.k == 3) = false → (r.k == 4) = false → (r.k == 5) = false → (r.k == 6) = false → r.k ≠ 1 → r.k ≠ 2 → r.k ≠ 3 → r.k ≠ 4 → r.k ≠ 5 → r.k ≠ 6 → P) : P := by
  by_cases a1 : r.k = 1
  · exact h1 a1
  by_cases a2 : r.k = 2
  · exact h2 a2
  by_cases a3 : r.k = 3
  · exact h3 a3
  by_cases a4 : r.k = 4
  · exact h4 a4
  by_cases a5 : r.k = 5
  · exact h5 a5
  by_cases a6 : r.k = 6
  · exact h6 a6
  exact h0 (by simpa using a1) (by simpa using a2) (by simpa using a3) (by simpa using a4) (by simpa using a5) (by simpa using a6) a1 a2 a3 a4 a5 a6
theorem row_run {n : Nat} (hn : 6 ≤ n) (r : Rw) : pureCall (rc pg n) 21 [rowD r] = some (.ret (D.int (rowErr r))) := by
  obtain ⟨m, rfl, e⟩ := body (pg := pg) (f := 21) (args := [rowD r]) (show 0 < n by omega) rfl rfl
  rw [e]
  have hk := @kinds_run m (by omega)
  have ho := @of_run m (by omega) r
  have hc : kindsD.canon = true := rfl
  have s1 : pg.sh 66 = false := rfl
  have s2 : pg.sh 65 = false := rfl
  simp only [rowD, natD, natC] at ho
  by_cases hv : (natF r).valid = true <;> simp [k21, Env.v_ini, rowD, hk, ho, hv, D.cells, D.one, rowErr, dcore_f, hc, s1, s2]
theorem rrow_run {n : Nat} (hn : 2 ≤ n) (r : Rw) : pureCall (rc pg n) 22 [rowD r] = some (.ret (D.int (rowErr r))) := by
  obtain ⟨m, rfl, e⟩ := body (pg := pg) (f := 22) (args := [rowD r]) (show 0 < n by omega) rfl rfl
  rw [e]
  have hw := fun a lo hi h => call_of (h := h) (pg := pg) (f := 64) rfl rfl (@rin_run m (by omega) a lo hi)
  obtain ⟨k, a, b⟩ := r
  refine kinds_cases ⟨k, a, b⟩ _ ?_ ?_ ?_ ?_ ?_ ?_ ?_
  · rintro rfl
    by_cases h : inB a 0 63 = true <;> cases hb : (b == 0) <;> simp [k22, Env.v_ini, rowD, D.cells, D.one, hw, h, hb, rowErr, natF, thickB]
  · rintro rfl
    by_cases h : inB a 1 100000 = true <;> cases hb : (b == 0) <;> simp [k22, Env.v_ini, rowD, D.cells, D.one, hw, h, hb, rowErr, natF, thickB]
  · rintro rfl
    by_cases h : inB a 1 100000 = true <;> by_cases hb : inB b 1 100000 = true <;> simp [k22, Env.v_ini, rowD, D.cells, D.one, hw, h, hb, rowErr, natF, thickB]
  · rintro rfl
    by_cases h : inB a 1 1000 = true <;> cases hb : (b == 0) <;> simp [k22, Env.v_ini, rowD, D.cells, D.one, hw, h, hb, rowErr, natF, thickB]
  · rintro rfl
    by_cases h : inB a 1 100000 = true <;> cases hb : (b == 0) <;> simp [k22, Env.v_ini, rowD, D.cells, D.one, hw, h, hb, rowErr, natF, thickB]
  · rintro rfl
    by_cases h : inB a 0 b = true <;> by_cases hb : inB b 1 1000 = true <;> simp [k22, Env.v_ini, rowD, D.cells, D.one, hw, h, hb, rowErr, natF, thickB]
  · intro b1 b2 b3 b4 b5 b6 a1 a2 a3 a4 a5 a6
    simp only at b1 b2 b3 b4 b5 b6 a1 a2 a3 a4 a5 a6
    simp [k22, Env.v_ini, rowD, D.cells, D.one, rowErr, natF, b1, b2, b3, b4, b5, b6, a1, a2, a3, a4, a5, a6]
theorem least_run {n : Nat} (hn : 1 ≤ n) (r : Rw) : pureCall (rc pg n) 79 [rowD r] = some (.ret (D.int (natF r).lo)) := by
  obtain ⟨m, rfl, e⟩ := body (pg := pg) (f := 79) (args := [rowD r]) (show 0 < n by omega) rfl rfl
  rw [e]
  obtain ⟨k, a, b⟩ := r
  refine kinds_cases ⟨k, a, b⟩ _ ?_ ?_ ?_ ?_ ?_ ?_ ?_
  iterate 6
    · rintro rfl
      simp [k79, Env.v_ini, rowD, D.cells, D.one, natF]
  · intro b1 b2 b3 b4 b5 b6 a1 a2 a3 a4 a5 a6
    simp only at b1 b2 b3 b4 b5 b6 a1 a2 a3 a4 a5 a6
    simp [k79, Env.v_ini, rowD, D.cells, D.one, natF, b2, b3, b6, a1, a2, a3, a4, a5, a6]
theorem most_run {n : Nat} (hn : 1 ≤ n) (r : Rw) : pureCall (rc pg n) 80 [rowD r] = some (.ret (D.int (natF r).hi)) := by
  obtain ⟨m, rfl, e⟩ := body (pg := pg) (f := 80) (args := [rowD r]) (show 0 < n by omega) rfl rfl
  rw [e]
  obtain ⟨k, a, b⟩ := r
  refine kinds_cases ⟨k, a, b⟩ _ ?_ ?_ ?_ ?_ ?_ ?_ ?_
  iterate 6
    · rintro rfl
      simp [k80, Env.v_ini, rowD, D.cells, D.one, natF]
  · intro b1 b2 b3 b4 b5 b6 a1 a2 a3 a4 a5 a6
    simp only at b1 b2 b3 b4 b5 b6 a1 a2 a3 a4 a5 a6
    simp [k80, Env.v_ini, rowD, D.cells, D.one, natF, b2, b3, b4, b6, a1, a2, a3, a4, a5, a6]
def loSum (l : List Rw) : Int := (l.map fun r => (natF r).lo).sum
theorem loSum_snoc (l : List Rw) (r : Rw) : loSum (l ++ [r]) = loSum l + (natF r).lo := by simp [loSum]
theorem lo_bound (r : Rw) (hv : (natF r).valid = true) : 0 ≤ (natF r).lo ∧ (natF r).lo ≤ 1000 := by
  unfold natF at hv ⊢
  repeat' split
  all_goals simp_all [inB]
  all_goals omega
theorem loSum_bound : ∀ (l : List Rw), okAll l = true → 0 ≤ loSum l ∧ loSum l ≤ 1000 * l.length
  | [], _ => by simp [loSum]
  | r :: l, h => by
    simp only [okAll, List.all_cons, Bool.and_eq_true] at h
    have h1 := lo_bound r h.1
    have h2 := loSum_bound l h.2
    have e : loSum (r :: l) = (natF r).lo + loSum l := by simp [loSum]
    rw [e, List.length_cons]
    omega
/-- The document's years of rows. -/
def yearsF (l : List Rw) : Int × Int × Int := if (natsF l).2 = 0 then (loSum l, hiSum l, 0) else (0, 0, (natsF l).2)
def YI (l : List Rw) (k : Nat) (s : St) : Prop := ∃ (x : Env 41) (h : Heap) (i : Nat), s = ⟨x.l, h, []⟩ ∧ i + k = l.length ∧ x.v 0 = rowsD l ∧ x.v 7 = D.int i ∧ x.v 5 = D.int (loSum (l.take i)) ∧ x.v 6 = D.int (hiSum (l.take i)) ∧ okAll (l.take i) = true
def YQ (l : List Rw) (x : Ex) (s : St) : Prop :=
  (x = .exit 0 ∧ YI l 0 s) ∨ (x = .ret ∧ okAll l = false ∧ ∃ (x : Env 41) (h : Heap), s = ⟨x.l, h, []⟩ ∧ x.v 2 = D.int 0 ∧ x.v 3 = D.int 0 ∧ x.v 4 = D.int 10)
set_option maxHeartbeats 1000000 in
theorem years_round (l : List Rw) (hl : l.length ≤ 400) : ∀ n, 3 ≤ n → ∀ k s, YI l k s → Res (k33l0.ev ⟨pg, 41, none⟩ (rc pg n) s) (Rnd (YI l) (YQ l) k) := by
  rintro n hn k s ⟨x, h, i, rfl, hik, v0, v7, v5, v6, hv⟩
  simp only [rowsD] at v0
  by_cases hlt : i < l.length
  · obtain ⟨r, hr⟩ : ∃ r, l[i] = r := ⟨l[i], rfl⟩
    have hb := hiSum_bound _ hv
    have hc := loSum_bound _ hv
    rw [List.length_take] at hb hc
    have j1 := fun h => call_of (h := h) (pg := pg) (f := 22) rfl (row_canon r) (@rrow_run n (by omega) r)
    have j2 := fun h => call_of (h := h) (pg := pg) (f := 79) rfl (row_canon r) (@least_run n (by omega) r)
    have j3 := fun h => call_of (h := h) (pg := pg) (f := 80) rfl (row_canon r) (@most_run n (by omega) r)
    simp only [rowD] at j1 j2 j3
    have htake : l.take (i + 1) = l.take i ++ [r] := by rw [List.take_add_one, List.getElem?_eq_getElem hlt, hr]; rfl
    have hw1 : IntKind.i64.wrap ((i : Int) + 1) = (i : Int) + 1 := wrap_i64 (by omega) (by omega)
    by_cases hval : (natF r).valid = true
    · have hbr := hi_bound r hval
      have hcr := lo_bound r hval
      have hw2 : IntKind.i64.wrap (hiSum (l.take i) + (natF r).hi) = hiSum (l.take (i + 1)) := by rw [htake, hiSum_snoc]; exact wrap_i64 (by omega) (by omega)
      have hw3 : IntKind.i64.wrap (loSum (l.take i) + (natF r).lo) = loSum (l.take (i + 1)) := by rw [htake, loSum_snoc]; exact wrap_i64 (by omega) (by omega)
      simp [k33l0, v0, v7, v5, v6, hlt, hr, rowD, D.cells, j1, j2, j3, rowErr, hval, hw1, hw2, hw3]
      exact ⟨k - 1, by omega, _, _, i + 1, rfl, by omega, by simp [v0, rowsD], by simp, by simp, by simp, by rw [htake, okAll_snoc, hv, hval]; rfl⟩
    · simp [k33l0, v0, v7, v5, v6, hlt, hr, rowD, D.cells, j1, j2, j3, rowErr, hval]
      refine .inr ⟨rfl, ?_, _, _, rfl, by simp, by simp, by simp⟩
      unfold okAll
      rw [List.all_eq_false]
      exact ⟨r, by rw [← hr]; exact List.getElem_mem hlt, hval⟩
  · simp [k33l0, v0, v7, hlt]
    have hi : i = l.length := by omega
    exact .inl ⟨rfl, _, _, i, rfl, by omega, by simp [v0, rowsD], by simp [v7], by simp [v5], by simp [v6], hv⟩
end Go.Proofs.YtkdcoldkncpkoaaDoor
