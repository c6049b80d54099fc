/- Whatever sheet and numbers it is called with, the code of SheetBetween returns true. -/
import Derived.Test.YtdljcjbghinhiaaDoorBtw
import Derived.Test.YtdljcjbghinhiaaDoorStep
import Derived.Test.YtdljcjbghinhiaaDoorBounds2
namespace Go.Proofs.YtdljcjbghinhiaaDoor
open Go Go.Em
set_option maxRecDepth 100000
theorem trimmed_run (i r c : Int) (l : List Rw) {n : Nat} (hn : 5 ≤ n) : pureCall (rc pg n) 14 [D.agg (sheetC i r c l)] = some (.ret (.agg (sheetC i r c (l.take 60)))) := by
  obtain ⟨m, rfl, e⟩ := body (pg := pg) (f := 14) (args := [D.agg (sheetC i r c l)]) (show 0 < n by omega) rfl rfl
  rw [e]
  have a1 := fun h => call_of (h := h) (pg := pg) (f := 9) rfl (rows_canon l) (@cut_run l m (by omega))
  have hcan : D.canonL ((l.take 60).map rowD) = true := canonL_map rowD (fun _ => rfl) _
  simp only [rowsD] at a1
  simp [k14, Env.v_ini, sheetC, rowsD, D.cells, D.one, a1]
  rw [List.map_take] at hcan
  simp [each_canon, hcan]
set_option maxHeartbeats 16000000 in
theorem between_law (si sr sc : Int) (rows : List Rw) (n0 n1 n2 : Int) {f : Nat} (hn : 5000 ≤ f) : pureCall (rc pg f) 4 [.agg (sheetC si sr sc rows), .agg [D.int n0, D.int n1, D.int n2]] = some (.ret (D.bool true)) := by
  obtain ⟨m, hm, e⟩ := body (pg := pg) (f := 4) (args := [.agg (sheetC si sr sc rows), .agg [D.int n0, D.int n1, D.int n2]]) (show 0 < f by omega) rfl rfl
  rw [e]
  have hs := @sane_call m (by omega)
  have a1 := fun h => call_of (h := h) (pg := pg) (f := 14) rfl (sheet_canon si sr sc rows) (@trimmed_run si sr sc rows m (by omega))
  obtain ⟨l, hl⟩ : ∃ l, l = rows.take 60 := ⟨_, rfl⟩
  have hl60 : l.length ≤ 60 := by rw [hl, List.length_take]; omega
  rw [← hl] at a1
  have a2 := fun h => call_of (h := h) (pg := pg) (f := 15) rfl (sheet_canon si sr sc l) (@marks_run si sr sc l m (by omega))
  have hcn : ∀ a b : Int, D.canonL [D.agg (sheetC si sr sc l), D.int a, D.int b] = true := fun a b => by simp [sheetC, rowsD, canonL_map rowD (fun _ => rfl) l]
  have hcr : D.canonL (l.map rowD) = true := canonL_map rowD (fun _ => rfl) l
  have hb := fun a b => @between_run si sr sc a b l m (by omega)
  have s1 : pg.sh 16 = false := rfl
  obtain ⟨M, hM⟩ : ∃ M, M = shMarks si sr sc l := ⟨_, rfl⟩
  rw [← hM] at a2
  simp only [sheetC, rowsD] at a1 a2
  by_cases h0 : M.length = 0
  · have hMn : M = [] := List.eq_nil_of_length_eq_zero h0
    subst hMn
    have hne := no_marks hM.symm 1 1
    have b1 := fun h => call_of (h := h) (pg := pg) (f := 16) rfl (hcn 1 1) (hb 1 1)
    have hne' : ((btwF si sr sc l 1 1).2 != 0) = true := by simpa using hne
    simp only [sheetC, rowsD, spD, spC] at b1
    simp [k4, Env.v_ini, sheetC, rowsD, D.cells, D.one, hs, a1, a2, b1, hne', zerosD, List.range_succ]
  · have hchk : chkF si sr sc l = 0 := by
      apply Decidable.byContradiction; intro h
      apply h0; rw [hM]; unfold shMarks; rw [if_neg h]; rfl
    have hMF : M = marksF sc l := by rw [hM]; unfold shMarks; rw [if_pos hchk]
    have hv := chk_ok hchk
    have hlenM : M.length ≤ 60 := by have := marks_len sc l; rw [hMF]; omega
    obtain ⟨i, hi⟩ : ∃ i : Nat, (i : Int) = n0 % M.length := ⟨(n0 % M.length).toNat, by have := Int.emod_nonneg n0 (show (M.length : Int) ≠ 0 by omega); omega⟩
    have hil : i < M.length := by have := Int.emod_lt_of_pos n0 (show (0 : Int) < M.length by omega); omega
    obtain ⟨j0, hj0⟩ : ∃ j : Nat, (j : Int) = n1 % ((M.length : Int) - i) := ⟨(n1 % ((M.length : Int) - i)).toNat, by have := Int.emod_nonneg n1 (show (M.length : Int) - i ≠ 0 by omega); omega⟩
    have hjl : i + j0 < M.length := by have := Int.emod_lt_of_pos n1 (show (0 : Int) < (M.length : Int) - i by omega); omega
    obtain ⟨j, hj⟩ : ∃ j, j = i + j0 := ⟨_, rfl⟩
    obtain ⟨k0, hk0⟩ : ∃ k : Nat, (k : Int) = n2 % ((M.length : Int) - j) := ⟨(n2 % ((M.length : Int) - j)).toNat, by have := Int.emod_nonneg n2 (show (M.length : Int) - j ≠ 0 by omega); omega⟩
    have hkl : j + k0 < M.length := by have := Int.emod_lt_of_pos n2 (show (0 : Int) < (M.length : Int) - j by omega); omega
    obtain ⟨k, hk⟩ : ∃ k, k = j + k0 := ⟨_, rfl⟩
    have q0 := fun h => call_of (h := h) (pg := pg) (f := 17) rfl rfl (@mod_run n0 M.length (by omega) (by omega) m (by omega))
    have q1 := fun h => call_of (h := h) (pg := pg) (f := 17) rfl rfl (@mod_run n1 ((M.length : Int) - i) (by omega) (by omega) m (by omega))
    have q2 := fun h => call_of (h := h) (pg := pg) (f := 17) rfl rfl (@mod_run n2 ((M.length : Int) - j) (by omega) (by omega) m (by omega))
    rw [← hi] at q0
    rw [← hj0] at q1
    rw [← hk0] at q2
    have w1 : IntKind.i64.wrap ((M.length : Int) - i) = (M.length : Int) - i := wrap_i64 (by omega) (by omega)
    have w2 : IntKind.i64.wrap ((i : Int) + j0) = (j : Int) := by rw [wrap_i64 (by omega) (by omega)]; omega
    have w3 : IntKind.i64.wrap ((M.length : Int) - j) = (M.length : Int) - j := wrap_i64 (by omega) (by omega)
    have w4 : IntKind.i64.wrap ((j : Int) + k0) = (k : Int) := by rw [wrap_i64 (by omega) (by omega)]; omega
    have hjl' : j < M.length := by omega
    have hkl' : k < M.length := by omega
    obtain ⟨A, hA⟩ : ∃ A, M[i] = A := ⟨_, rfl⟩
    obtain ⟨B, hB⟩ : ∃ B, M[j] = B := ⟨_, rfl⟩
    obtain ⟨C, hC⟩ : ∃ C, M[k] = C := ⟨_, rfl⟩
    obtain ⟨p, hp, ap⟩ := mark_place_of hchk i (by rw [← hMF]; exact hil)
    obtain ⟨q, hq, aq⟩ := mark_place_of hchk j (by rw [← hMF]; exact hjl')
    obtain ⟨t, ht, at'⟩ := mark_place_of hchk k (by rw [← hMF]; exact hkl')
    have hpq := place_le hchk (show i ≤ j by omega) (by rw [← hMF]; exact hjl') ap aq
    have hqt := place_le hchk (show j ≤ k by omega) (by rw [← hMF]; exact hkl') aq at'
    have eA : (marksF sc l)[i]'(by rw [← hMF]; exact hil) = A := by rw [← hA]; simp [hMF]
    have eB : (marksF sc l)[j]'(by rw [← hMF]; exact hjl') = B := by rw [← hB]; simp [hMF]
    have eC : (marksF sc l)[k]'(by rw [← hMF]; exact hkl') = C := by rw [← hC]; simp [hMF]
    rw [eA] at ap
    rw [eB] at aq
    rw [eC] at at'
    have bx := hb A B
    have byy := hb B C
    have bz := hb A C
    have br := hb C A
    rw [(btw_down hchk ap aq hpq).1] at bx
    rw [(btw_down hchk aq at' hqt).1] at byy
    rw [(btw_down hchk ap at' (by omega)).1] at bz
    rw [(btw_down hchk ap at' (by omega)).2] at br
    obtain ⟨e1, e2⟩ := mid_sum l hpq hqt
    rw [e1, e2] at bz br
    have m1 := mid_bound hv (by omega) p q
    have m2 := mid_bound hv (by omega) q t
    obtain ⟨L1, hL1⟩ : ∃ x, x = midS loSum l p q := ⟨_, rfl⟩
    obtain ⟨H1, hH1⟩ : ∃ x, x = midS hiSum l p q := ⟨_, rfl⟩
    obtain ⟨L2, hL2⟩ : ∃ x, x = midS loSum l q t := ⟨_, rfl⟩
    obtain ⟨H2, hH2⟩ : ∃ x, x = midS hiSum l q t := ⟨_, rfl⟩
    rw [← hL1, ← hH1] at m1 bx
    rw [← hL2, ← hH2] at m2 byy
    rw [← hL1, ← hH1, ← hL2, ← hH2] at bz br
    have w5 : IntKind.i64.wrap (L1 + L2) = L1 + L2 := wrap_i64 (by omega) (by omega)
    have w6 : IntKind.i64.wrap (H1 + H2) = H1 + H2 := wrap_i64 (by omega) (by omega)
    have w7 : IntKind.i64.wrap (-(H1 + H2)) = -(H1 + H2) := wrap_i64 (by omega) (by omega)
    have w8 : IntKind.i64.wrap (-(L1 + L2)) = -(L1 + L2) := wrap_i64 (by omega) (by omega)
    have hMne : M ≠ [] := by intro h; apply h0; rw [h]; rfl
    have h0' : ((M.length : Int) == 0) = false := by simp [hMne]
    simp only [sheetC, rowsD, spD, spC] at bx byy bz br
    simp [k4, Env.v_ini, sheetC, rowsD, D.cells, D.one, hs, a1, a2, h0', q0, q1, q2, w1, w2, w3, w4, w5, w6, w7, w8, hil, hjl', hkl', hA, hB, hC, bx, byy, bz, br, dcore_f, s1, hcr, zerosD, List.range_succ]
end Go.Proofs.YtdljcjbghinhiaaDoor
