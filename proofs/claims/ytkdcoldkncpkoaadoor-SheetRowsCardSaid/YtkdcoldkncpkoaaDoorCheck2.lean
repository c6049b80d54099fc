/- Whether a sheet is valid: the whole function. -/
import Derived.Test.YtkdcoldkncpkoaaDoorCheck
namespace Go.Proofs.YtkdcoldkncpkoaaDoor
open Go Go.Em
set_option maxRecDepth 100000
theorem sheet_canon (i r c : Int) (l : List Rw) : D.canonL [D.agg (sheetC i r c l)] = true := by
  simp [sheetC, rowsD, canonL_map rowD (fun _ => rfl) l]
theorem rows_canon (l : List Rw) : D.canonL [rowsD l] = true := by
  simp [rowsD, canonL_map rowD (fun _ => rfl) l]
theorem below_run {n : Nat} (hn : 1 ≤ n) (i r c : Int) (l : List Rw) : pureCall (rc pg n) 62 [D.agg (sheetC i r c l)] = some (.ret (.fn (.func 101) [] [.eref (sheetC i r c l)])) := by
  obtain ⟨m, rfl, e⟩ := body (pg := pg) (f := 62) (args := [D.agg (sheetC i r c l)]) (show 0 < n by omega) rfl rfl
  rw [e]
  have he := fun h n => rows_each h n l
  simp [k62, Env.v_ini, sheetC, rowsD, D.cells, D.one, he]
theorem len_of_ok {l : List Rw} (h : (natsF l).2 = 0) : l.length ≤ 400 := by
  unfold natsF at h
  split at h
  · simp at h
  · omega
/-- What the loop over the rows leaves. -/
def CP (c : Int) (l : List Rw) (x : Ex) (s : St) : Prop := ∃ (X : Env 48) (h : Heap), s = ⟨X.l, h, [.mark 240]⟩ ∧ X.v 2 = .ptr 2 0 ∧ h.get 240 = some .mark ∧
  ((x = .normal ∧ h.get 2 = some (.cells 34 [D.int 0]) ∧ ordF c (-1) l = true) ∨ (x = .ret ∧ h.get 2 = some (.cells 34 [D.int 15]) ∧ ordF c (-1) l = false))
theorem check_tail (X : Env 48) (h0 : Heap) (i r c : Int) (l : List Rw) (hl : l.length ≤ 400) (hnext : h0.next = 240) (hf : h0.Fr) (g1 : h0.get 1 = some (.cells 26 (sheetC i r c l))) (g2 : h0.get 2 = some (.cells 34 [D.int 0]))
    (x1 : X.v 1 = .ptr 1 0) (x2 : X.v 2 = .ptr 2 0) (x33 : X.v 33 = .fn (.func 101) [] [.eref (sheetC i r c l)]) {m : Nat} (hn : l.length + 10 ≤ m) :
    Res (Cd.ev ⟨pg, 48, none⟩ (rc pg m) (.rangeF (.s 33) [34, 35] k23l0 k23l1) { e := X.l, h := h0, df := [] }) (CP c l) := by
  refine Res.rangeF rfl (f := 101) (fs := []) (cs := [.eref (sheetC i r c l)]) x33 hf ?_
  obtain ⟨H, hH⟩ : ∃ H, H = (((h0.bump 2).set h0.next (some .mark)).set (h0.next + 1) (some (.loop (CL X h0.next)))) := ⟨_, rfl⟩
  have hJ : CJ X 241 240 i r c l l (-1) H := by
    refine ⟨?_, ?_, ?_, ?_, rfl⟩
    · rw [hH, hnext]; simp
    · rw [hH, hnext]; simp [g1]
    · rw [hH, hnext]; simp [g2]
    · rw [hH, hnext]; simp
  have hHf : H.Fr := by
    rw [hH]
    refine ((hf.bump 2).set _ ?_).set _ ?_ <;> simp
  obtain ⟨d, h3, e, hz⟩ := iter_run (check_iter X 241 240 (by omega) rfl i r c l x1 x2) i r l hl hJ hHf (by rw [hH]; simp [hnext]) (n := m) (by omega)
  rw [hH, hnext] at e
  rcases hz with ⟨a, j1, j2, j3, j4, j5⟩ | ⟨⟨q, j1, j2, j3⟩, j4, j5, j6⟩
  · refine ⟨d, h3, CL X 240, by rw [hnext]; exact e, by rw [hnext]; exact j1, (show LoopState.ready ≠ LoopState.busy by decide), rfl, X, _, by rw [hnext], x2, ?_, .inl ⟨rfl, ?_, j5⟩⟩
    · rw [Heap.get_set, if_neg (by omega)]; exact j4
    · rw [Heap.get_set, if_neg (by omega)]; exact j3
  · refine ⟨d, h3, q, by rw [hnext]; exact e, by rw [hnext]; exact j1, by rw [j2]; decide, by rw [j3]; rfl, X, _, by rw [hnext], x2, ?_, .inr ⟨j3, ?_, j6⟩⟩
    · rw [Heap.get_set, if_neg (by omega)]; exact j5
    · rw [Heap.get_set, if_neg (by omega)]; exact j4
set_option maxHeartbeats 1000000 in
theorem check_run (i r c : Int) (l : List Rw) {n : Nat} (hn : l.length + 20 ≤ n) : pureCall (rc pg n) 23 [D.agg (sheetC i r c l)] = some (.ret (D.int (chkF i r c l))) := by
  obtain ⟨m, rfl, e⟩ := body (pg := pg) (f := 23) (args := [D.agg (sheetC i r c l)]) (show 0 < n by omega) rfl rfl
  rw [e]
  have hw := fun a lo hi h => call_of (h := h) (pg := pg) (f := 63) rfl rfl (@in_run m (by omega) a lo hi)
  have hnat := fun h => call_of (h := h) (pg := pg) (f := 67) rfl (rows_canon l) (@natures_run l m (by omega))
  have hbel := fun h => call_of (h := h) (pg := pg) (f := 62) rfl (sheet_canon i r c l) (@below_run m (by omega) i r c l)
  simp only [rowsD] at hnat
  simp only [sheetC, rowsD] at hbel
  by_cases h1 : inB i 1 99999 = true
  · by_cases h2 : inB r 1 99 = true
    · by_cases h3 : inB c 0 31 = true
      · by_cases h4 : (natsF l).2 = 0
        · simp [k23, Env.v_ini, sheetC, rowsD, D.cells, D.one, hw, h1, h2, h3, hnat, h4, hbel]
          refine Res.endsAfter (check_tail _ _ i r c l (len_of_ok h4) (by simp) ?_ (by simp [sheetC, rowsD]) (by simp) (by simp) (by simp) (by simp [sheetC, rowsD]) (by omega)) ?_
          · repeat' first | exact Heap.Fr.empty | apply Heap.Fr.bump | apply Heap.Fr.set
            all_goals simp
          rintro x s ⟨X, h, rfl, x2, hg, ⟨rfl, h5, h6⟩ | ⟨rfl, h5, h6⟩⟩
          · simp [x2, hg, h5, chkF, h1, h2, h3, h4, h6, D.cells, D.one]
          · simp [x2, hg, h5, chkF, h1, h2, h3, h4, h6, D.cells, D.one]
        · have h4' : ((natsF l).2 != 0) = true := by simpa using h4
          simp [k23, Env.v_ini, sheetC, rowsD, D.cells, D.one, hw, h1, h2, h3, hnat, h4', h4, chkF]
      · simp [k23, Env.v_ini, sheetC, rowsD, D.cells, D.one, hw, h1, h2, h3, chkF]
    · simp [k23, Env.v_ini, sheetC, rowsD, D.cells, D.one, hw, h1, h2, chkF]
  · simp [k23, Env.v_ini, sheetC, rowsD, D.cells, D.one, hw, h1, chkF]
end Go.Proofs.YtkdcoldkncpkoaaDoor
