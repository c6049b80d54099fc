/- The document's own answers: whether a sheet is valid; its marks and places. -/
import Derived.Test.YtkdcoldkncpkoaaDoorRef2
namespace Go.Proofs.YtkdcoldkncpkoaaDoor
open Go Go.Em
set_option maxRecDepth 100000
theorem ok_of {l : List Rw} (h : (natsF l).2 = 0) : okAll l = true := by
  unfold natsF at h
  split at h
  · simp at h
  · split at h
    · simp at h
    · rename_i h1; simpa using h1
theorem chk_ord {i r c : Int} {l : List Rw} (h1 : inB i 1 99999 = true) (h2 : inB r 1 99 = true) (h3 : inB c 0 31 = true) (h4 : (natsF l).2 = 0) : chkF i r c l = if ordN (-1) l = true then 0 else 15 := by
  have hc : 0 ≤ c ∧ c ≤ 31 := by simpa [inB] using h3
  have := ord_same c hc l (-1) (ok_of h4) (by omega) (by omega)
  simp only [if_true] at this
  simp [chkF, h1, h2, h3, h4, this]
set_option maxHeartbeats 1000000 in
theorem rcheck_run (i r c : Int) (l : List Rw) {n : Nat} (hn : l.length + 20 ≤ n) : pureCall (rc pg n) 24 [D.agg (sheetC i r c l)] = some (.ret (D.int (chkF i r c l))) := by
  obtain ⟨m, rfl, e⟩ := body (pg := pg) (f := 24) (args := [D.agg (sheetC i r c l)]) (show 0 < n by omega) rfl rfl
  rw [e]
  have hw := fun a lo hi h => call_of (h := h) (pg := pg) (f := 64) rfl rfl (@rin_run m (by omega) a lo hi)
  have hy := fun h => call_of (h := h) (pg := pg) (f := 33) rfl (rows_canon l) (@years_run l m (by omega))
  simp only [rowsD] at hy
  have hy2 : (yearsF l).2.2 = (natsF l).2 := by unfold yearsF; split <;> simp_all
  rw [hy2] at hy
  by_cases h1 : inB i 1 99999 = true
  · by_cases h2 : inB r 1 99 = true
    · by_cases h3 : inB c 0 31 = true
      · by_cases h4 : (natsF l).2 = 0
        · simp [k24, Env.v_ini, sheetC, rowsD, D.cells, D.one, hw, h1, h2, h3, hy, h4, ev_loop]
          refine Res.endsAfter (P := RQ l) (lp_rule 3 (RI (sheetC i r c l) l) (RQ l) (rcheck_round i r c l (len_of_ok h4)) l.length m _ (by omega)
            ⟨_, _, 0, -1, rfl, by omega, by simp [sheetC, rowsD], by simp, by simp, by simp, rfl⟩) ?_
          rintro x s (⟨rfl, ho, x, h, rfl⟩ | ⟨rfl, ho, x, h, rfl, v2⟩)
          · simp [chk_ord h1 h2 h3 h4, ho]
          · simp [chk_ord h1 h2 h3 h4, ho, v2]
        · have h4' : ((natsF l).2 != 0) = true := by simpa using h4
          simp [k24, Env.v_ini, sheetC, rowsD, D.cells, D.one, hw, h1, h2, h3, hy, h4', h4, chkF]
      · simp [k24, Env.v_ini, sheetC, rowsD, D.cells, D.one, hw, h1, h2, h3, chkF]
    · simp [k24, Env.v_ini, sheetC, rowsD, D.cells, D.one, hw, h1, h2, chkF]
  · simp [k24, Env.v_ini, sheetC, rowsD, D.cells, D.one, hw, h1, chkF]
theorem rmark_run {n : Nat} (hn : 2 ≤ n) (a b : Int) : pureCall (rc pg n) 26 [D.int a, D.int b] = some (.ret (D.int (markF a b))) := by
  obtain ⟨m, rfl, e⟩ := body (pg := pg) (f := 26) (args := [D.int a, D.int b]) (show 0 < n by omega) rfl rfl
  rw [e]
  have hw := fun a lo hi h => call_of (h := h) (pg := pg) (f := 64) rfl rfl (@rin_run m (by omega) a lo hi)
  by_cases h1 : 0 ≤ a <;> by_cases h2 : a ≤ 31 <;> by_cases h3 : 0 ≤ b <;> by_cases h4 : b ≤ 63 <;> simp [k26, Env.v_ini, hw, inB, h1, h2, h3, h4, markF]
  rw [wrap_i64 (n := 64 * a) (by omega) (by omega), wrap_i64 (n := 64 * a + b) (by omega) (by omega), wrap_i64 (by omega) (by omega)]
theorem rplace_run {n : Nat} (hn : 2 ≤ n) (a : Int) : pureCall (rc pg n) 20 [D.int a] = some (.ret (.tup [D.int (placeF a).1, D.int (placeF a).2])) := by
  obtain ⟨m, rfl, e⟩ := body (pg := pg) (f := 20) (args := [D.int a]) (show 0 < n by omega) rfl rfl
  rw [e]
  have hw := fun a lo hi h => call_of (h := h) (pg := pg) (f := 64) rfl rfl (@rin_run m (by omega) a lo hi)
  by_cases h1 : 1 ≤ a <;> by_cases h2 : a ≤ 2048 <;> simp [k20, Env.v_ini, hw, inB, h1, h2, placeF, bin_quo, bin_rem]
  rw [wrap_i64 (n := a - 1) (by omega) (by omega), Int.tdiv_eq_ediv_of_nonneg (by omega), Int.tmod_eq_emod_of_nonneg (by omega), wrap_i64 (by omega) (by omega)]
  exact ⟨rfl, rfl⟩
/-- The marks of rows, from a mark on. -/
def marksF (c : Int) (l : List Rw) : List Int := (l.filter fun r => r.k == 1).map fun r => markF c r.n
theorem marks_snoc (c : Int) (l : List Rw) (r : Rw) : marksF c (l ++ [r]) = marksF c l ++ (if r.k = 1 then [markF c r.n] else []) := by
  unfold marksF
  rw [List.filter_append, List.map_append]
  by_cases h : r.k = 1 <;> simp [h]
theorem marks_len (c : Int) (l : List Rw) : (marksF c l).length ≤ l.length := by
  unfold marksF; rw [List.length_map]; exact List.length_filter_le _ _
/-- A list of numbers that grows by append. -/
def Gl (h : Heap) (d : D) (l : List Int) : Prop := (l = [] ∧ d = .val (.slice none 0 0)) ∨ ∃ k, d = .slr k 0 l.length 1 none ∧ h.get k = some (.cells 3 (l.map D.int)) ∧ k < h.next ∧ 1 < k
end Go.Proofs.YtkdcoldkncpkoaaDoor
