/- The law on rows, marks and places. -/
import Derived.Test.YthgnholbajpdgaaDoorMarks
namespace Go.Proofs.YthgnholbajpdgaaDoor
open Go Go.Em
set_option maxRecDepth 100000
def intsD (l : List Int) : D := .sl false (l.map D.int)
def SI (l : List Int) (k : Nat) (s : St) : Prop := ∃ (x : Env 31) (h : Heap) (i : Nat), s = ⟨x.l, h, []⟩ ∧ i + k = l.length ∧ x.v 0 = intsD l ∧ x.v 1 = intsD l ∧ x.v 5 = D.bool true ∧ x.v 6 = D.int i
theorem same_round (l : List Int) (hl : l.length ≤ 1000000) : ∀ n, 0 ≤ n → ∀ k s, SI l k s → Res (k17l0.ev ⟨pg, 31, none⟩ (rc pg n) s) (Rnd (SI l) (fun x s => x = .exit 0 ∧ SI l 0 s) k) := by
  rintro n hn k s ⟨x, h, i, rfl, hik, v0, v1, v5, v6⟩
  simp only [intsD] at v0 v1
  by_cases hlt : i < l.length
  · obtain ⟨r, hr⟩ : ∃ r, l[i] = r := ⟨l[i], rfl⟩
    have hw1 : IntKind.i64.wrap ((i : Int) + 1) = (i : Int) + 1 := wrap_i64 (by omega) (by omega)
    simp [k17l0, v0, v1, v5, v6, hlt, hr, D.cells, hw1]
    exact ⟨k - 1, by omega, _, _, i + 1, rfl, by omega, by simp [v0, intsD], by simp [v1, intsD], by simp, by simp⟩
  · simp [k17l0, v0, v6, hlt]
    exact ⟨_, _, i, rfl, by omega, by simp [v0, intsD], by simp [v1, intsD], by simp [v5], by simp [v6]⟩
theorem same_run (l : List Int) (hl : l.length ≤ 1000000) {n : Nat} (hn : l.length + 5 ≤ n) : pureCall (rc pg n) 17 [intsD l, intsD l] = some (.ret (D.bool true)) := by
  obtain ⟨m, rfl, e⟩ := body (pg := pg) (f := 17) (args := [intsD l, intsD l]) (show 0 < n by omega) rfl rfl
  rw [e]
  simp [k17, Env.v_ini, intsD, ev_loop]
  refine Res.endsAfter (lp_rule 0 (SI l) _ (same_round l hl) l.length m _ (by omega) ⟨_, _, 0, rfl, by omega, by simp [Env.v_ini, intsD], by simp [Env.v_ini, intsD], by simp, by simp⟩) ?_
  rintro x s ⟨rfl, x, h, i, rfl, hi, v0, v1, v5, v6⟩
  simp [v5]
theorem shMarks_len (i r c : Int) (l : List Rw) : (shMarks i r c l).length ≤ 400 := by
  unfold shMarks
  split
  · rename_i h0
    have := marks_len c l
    have hl : l.length ≤ 400 := by
      apply len_of_ok
      unfold chkF at h0
      split at h0
      · omega
      · split at h0
        · rename_i h1; exact absurd h0 h1
        · rename_i h1; simpa using h1
    omega
  · simp
set_option maxHeartbeats 4000000 in
theorem rows_law (w : Rw) (i r c : Int) (l : List Rw) (n0 n1 n2 : Int) {n : Nat} (hn : l.length + 500 ≤ n) : pureCall (rc pg n) 3 [rowD w, .agg (sheetC i r c l), .agg [D.int n0, D.int n1, D.int n2]] = some (.ret (D.bool true)) := by
  obtain ⟨m, hm, e⟩ := body (pg := pg) (f := 3) (args := [rowD w, .agg (sheetC i r c l), .agg [D.int n0, D.int n1, D.int n2]]) (show 0 < n by omega) rfl rfl
  rw [e]
  have hs := @sane_call m (by omega)
  have a1 := fun h => call_of (h := h) (pg := pg) (f := 16) rfl (sheet_canon i r c l) (@marks_run i r c l m (by omega))
  have a2 := fun h => call_of (h := h) (pg := pg) (f := 18) rfl (sheet_canon i r c l) (@rmarks_run i r c l m (by omega))
  have hlen := shMarks_len i r c l
  have hcn : D.canonL [intsD (shMarks i r c l), intsD (shMarks i r c l)] = true := by simp [intsD, canonL_map D.int (fun _ => rfl)]
  have a3 := fun h => call_of (h := h) (pg := pg) (f := 17) rfl hcn (@same_run (shMarks i r c l) (by omega) m (by omega))
  have a4 := @place_run m (by omega)
  have a5 := fun a h => call_of (h := h) (pg := pg) (f := 20) rfl rfl (@rplace_run m (by omega) a)
  have b1 := @row_run m (by omega) w
  have b2 := @rrow_run m (by omega) w
  have b3 := @check_run i r c l m (by omega)
  have b4 := @rcheck_run i r c l m (by omega)
  have b5 := @mark_pure m (by omega)
  have b6 := @rmark_run m (by omega)
  have s1 : pg.sh 21 = false := rfl
  have s2 : pg.sh 22 = false := rfl
  have s3 : pg.sh 23 = false := rfl
  have s4 : pg.sh 24 = false := rfl
  have s5 : pg.sh 25 = false := rfl
  have s6 : pg.sh 26 = false := rfl
  have hcr : D.canonL (l.map rowD) = true := canonL_map rowD (fun _ => rfl) l
  simp only [sheetC, rowsD, rowD, intsD] at a1 a2 a3 b1 b2 b3 b4
  have hcr' : D.canonL (l.map fun r => D.agg [D.int r.k, D.int r.n, D.int r.m]) = true := hcr
  simp [k3, Env.v_ini, sheetC, rowsD, rowD, D.cells, D.one, hs, a1, a2, a3, a4, a5, b1, b2, b3, b4, b5, b6, dcore_f, s1, s2, s3, s4, s5, s6, hcr]
end Go.Proofs.YthgnholbajpdgaaDoor
