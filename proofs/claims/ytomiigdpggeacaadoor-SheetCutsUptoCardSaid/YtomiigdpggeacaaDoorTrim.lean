/- At most so many rows of a sheet; the remainder. -/
import Derived.Test.YtomiigdpggeacaaDoorRBoth
namespace Go.Proofs.YtomiigdpggeacaaDoor
open Go Go.Em
set_option maxRecDepth 100000
theorem cut_run (l : List Rw) {n : Nat} (hn : 1 ≤ n) : pureCall (rc pg n) 29 [rowsD l] = some (.ret (rowsD (l.take 60))) := by
  obtain ⟨m, rfl, e⟩ := body (pg := pg) (f := 29) (args := [rowsD l]) (show 0 < n by omega) rfl rfl
  rw [e]
  obtain ⟨c, hc⟩ : ∃ c : Nat, c = min l.length 60 := ⟨_, rfl⟩
  have hmin : min (l.length : Int) 60 = (c : Int) := by omega
  have hle : c ≤ l.length := by omega
  have hhead := rows_head l
  have htk : (l.map rowD).take c = (l.take 60).map rowD := by
    rw [List.map_take]
    rcases Nat.le_total l.length 60 with h | h
    · rw [List.take_of_length_le (by simp; omega), List.take_of_length_le (by simpa using h)]
    · rw [show c = 60 by omega]
  have hcan : D.canonL ((l.take 60).map rowD) = true := canonL_map rowD (fun _ => rfl) _
  simp [k29, Env.v_ini, rowsD, hmin, hle, hhead]
  rw [htk]
  simp
  rw [List.map_take] at hcan
  exact ⟨[], each_canon _ 22 _ hcan⟩
theorem trimmed_run (i r c : Int) (l : List Rw) {n : Nat} (hn : 5 ≤ n) : pureCall (rc pg n) 23 [D.agg (sheetC i r c l)] = some (.ret (.agg (sheetC i r c (l.take 60)))) := by
  obtain ⟨m, rfl, e⟩ := body (pg := pg) (f := 23) (args := [D.agg (sheetC i r c l)]) (show 0 < n by omega) rfl rfl
  rw [e]
  have a1 := fun h => call_of (h := h) (pg := pg) (f := 29) rfl (rows_canon l) (@cut_run l m (by omega))
  have hcan : D.canonL ((l.take 60).map rowD) = true := canonL_map rowD (fun _ => rfl) _
  simp only [rowsD] at a1
  simp [k23, Env.v_ini, sheetC, rowsD, D.cells, D.one, a1]
  rw [List.map_take] at hcan
  simp [each_canon, hcan]
theorem mod_run (p c : Int) (h0 : 0 < c) (hc : c ≤ 1000000) {n : Nat} (hn : 1 ≤ n) : pureCall (rc pg n) 31 [D.int p, D.int c] = some (.ret (D.int (p % c))) := by
  obtain ⟨m, rfl, e⟩ := body (pg := pg) (f := 31) (args := [D.int p, D.int c]) (show 0 < n by omega) rfl rfl
  rw [e]
  have hcn : c ≠ 0 := by omega
  have hm1 := Int.emod_nonneg p hcn
  have hm2 := Int.emod_lt_of_pos p h0
  have ht : p.tmod c = p % c ∨ p.tmod c = p % c - c := by
    rw [Int.tmod_eq_emod]
    split
    · left; simp
    · right; omega
  have hw : IntKind.i64.wrap (p.tmod c + c) = p.tmod c + c := wrap_i64 (by omega) (by omega)
  have hr : (p.tmod c + c).tmod c = p % c := by
    rw [Int.tmod_eq_emod_of_nonneg (by omega), Int.add_emod_right]
    rcases ht with h | h <;> rw [h]
    · rw [Int.emod_emod]
    · rw [Int.sub_emod, Int.emod_self, Int.sub_zero, Int.emod_emod, Int.emod_emod]
  simp [k31, Env.v_ini, bin_rem, hcn, hw, hr]
end Go.Proofs.YtomiigdpggeacaaDoor
/- Whatever two sheets it is called with, the code of SheetMeets returns true. -/
namespace Go.Proofs.YtomiigdpggeacaaDoor
open Go Go.Em
set_option maxRecDepth 100000
theorem where_len (W : Sp → Bool) (i r c : Int) (l : List Rw) (i' r' c' : Int) (l' : List Rw) : (whereF W i r c l i' r' c' l').length ≤ 400 := by
  unfold whereF
  split
  · have h1 := List.length_filter_le W (bothF i r c l i' r' c' l')
    have h2 := both_len i r c l i' r' c' l'
    omega
  · simp
set_option maxHeartbeats 16000000 in
theorem meets_law (si sr sc : Int) (rows : List Rw) (ti tr tc : Int) (rows' : List Rw) {f : Nat} (hn : 5000 ≤ f) : pureCall (rc pg f) 7 [.agg (sheetC si sr sc rows), .agg (sheetC ti tr tc rows')] = some (.ret (D.bool true)) := by
  obtain ⟨m, hm, e⟩ := body (pg := pg) (f := 7) (args := [.agg (sheetC si sr sc rows), .agg (sheetC ti tr tc rows')]) (show 0 < f by omega) rfl rfl
  rw [e]
  have hs := @sane_call m (by omega)
  have a1 := fun h => call_of (h := h) (pg := pg) (f := 23) rfl (sheet_canon si sr sc rows) (@trimmed_run si sr sc rows m (by omega))
  have a2 := fun h => call_of (h := h) (pg := pg) (f := 23) rfl (sheet_canon ti tr tc rows') (@trimmed_run ti tr tc rows' m (by omega))
  obtain ⟨l, hl⟩ : ∃ l, l = rows.take 60 := ⟨_, rfl⟩
  obtain ⟨l', hl'⟩ : ∃ l, l = rows'.take 60 := ⟨_, rfl⟩
  have hl60 : l.length ≤ 60 := by rw [hl, List.length_take]; omega
  have hl60' : l'.length ≤ 60 := by rw [hl', List.length_take]; omega
  rw [← hl] at a1
  rw [← hl'] at a2
  have hcn := two_canon si sr sc l ti tr tc l'
  have b1 := fun h => call_of (h := h) (pg := pg) (f := 24) rfl hcn (@meet_run si sr sc l ti tr tc l' m (by omega))
  have b2 := fun h => call_of (h := h) (pg := pg) (f := 25) rfl hcn (@rm25_run si sr sc l ti tr tc l' m (by omega))
  have b3 := fun h => call_of (h := h) (pg := pg) (f := 26) rfl hcn (@apart_run si sr sc l ti tr tc l' m (by omega))
  have b4 := fun h => call_of (h := h) (pg := pg) (f := 27) rfl hcn (@rm27_run si sr sc l ti tr tc l' m (by omega))
  have e1 : (fun p : Sp => decide (p.lo ≤ p.hi)) = W25 := rfl
  have e2 : (fun p : Sp => decide (p.hi < p.lo)) = W27 := rfl
  rw [e1] at b1
  rw [e2] at b3
  obtain ⟨A, hA⟩ : ∃ A, A = whereF W25 si sr sc l ti tr tc l' := ⟨_, rfl⟩
  obtain ⟨B, hB⟩ : ∃ B, B = whereF W27 si sr sc l ti tr tc l' := ⟨_, rfl⟩
  obtain ⟨E, hE⟩ : ∃ E, E = twoF si sr sc l ti tr tc l' := ⟨_, rfl⟩
  have hA4 := where_len W25 si sr sc l ti tr tc l'
  have hB4 := where_len W27 si sr sc l ti tr tc l'
  rw [← hA] at b1 b2 hA4
  rw [← hB] at b3 b4 hB4
  rw [← hE] at b1 b2 b3 b4
  have cA : D.canonL [spsD A, spsD A] = true := by simp [spsD, sps_canon]
  have cB : D.canonL [spsD B, spsD B] = true := by simp [spsD, sps_canon]
  have c1 := fun h => call_of (h := h) (pg := pg) (f := 28) rfl cA (@sameS_run A (by omega) m (by omega))
  have c2 := fun h => call_of (h := h) (pg := pg) (f := 28) rfl cB (@sameS_run B (by omega) m (by omega))
  simp only [sheetC, rowsD, spsD] at a1 a2 b1 b2 b3 b4 c1 c2
  simp [k7, Env.v_ini, sheetC, rowsD, D.cells, D.one, hs, a1, a2, b1, b2, b3, b4, c1, c2]
end Go.Proofs.YtomiigdpggeacaaDoor
