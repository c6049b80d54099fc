/- The law on readings. -/
import Derived.Test.YthgnholbajpdgaaDoorRead4
namespace Go.Proofs.YthgnholbajpdgaaDoor
open Go Go.Em
set_option maxRecDepth 100000
theorem rread_run (picks : List Int) (l : List Rw) {n : Nat} (hn : l.length + 2300 ≤ n) : pureCall (rc pg n) 49 [rowsD l, intsD picks] = some (.ret (.tup [intsD (readL picks l), D.int (natsF l).2])) := by
  obtain ⟨m, rfl, e⟩ := body (pg := pg) (f := 49) (args := [rowsD l, intsD picks]) (show 0 < n by omega) rfl rfl
  rw [e]
  have hy := fun h => call_of (h := h) (pg := pg) (f := 33) rfl (rows_canon l) (@years_run l m (by omega))
  simp only [rowsD] at hy
  have hy2 : (yearsF l).2.2 = (natsF l).2 := by unfold yearsF; split <;> simp_all
  rw [hy2] at hy
  by_cases h4 : (natsF l).2 = 0
  · simp [k49, Env.v_ini, rowsD, hy, h4, ev_loop]
    refine Res.endsAfter (lp_rule 2200 (RR picks l) _ (rread_round picks l (len_of_ok h4) (ok_of h4)) l.length m _ (by omega) ⟨_, _, 0, 0, .val (.slice none 0 0), [], rfl, by omega, by simp [Env.v_ini, rowsD], by simp [Env.v_ini], by simp, by simp, by simp, .inl ⟨rfl, rfl⟩, by simp, by omega, rfl, ?_, by simp⟩) ?_
    · repeat' first | exact Heap.Fr.empty | apply Heap.Fr.bump | apply Heap.Fr.set
    rintro x s ⟨rfl, x, h, i, taken, d, acc, rfl, hi, v0, v1, v11, v10, v9, hd, hacc, htk, hrd, hf, _⟩
    obtain rfl : i = l.length := by omega
    rw [List.drop_length, readF, List.append_nil] at hrd
    have hd' : Gl (h.bump 104) d acc := hd.keep (by simp) fun k cs hk => by simpa using hk
    obtain ⟨ks, hfz⟩ := hd'.frozen 21
    simp [v9, readL, h4, hrd, hfz, intsD]
  · have h4' : ((natsF l).2 != 0) = true := by simpa using h4
    simp [k49, Env.v_ini, rowsD, hy, h4, h4', readL, intsD]
theorem readF_len (picks : List Int) : ∀ (l : List Rw) (t : Nat), okAll l = true → (readF picks t l).length ≤ 9000 * l.length
  | [], _, _ => by simp [readF]
  | r :: l, t, h => by
    simp only [okAll, List.all_cons, Bool.and_eq_true] at h
    have ih := readF_len picks l (tk t r) h.2
    obtain ⟨_, q2, _⟩ := nat_small r h.1
    have b4 := rowN_bound picks t r h.1
    have b3 := lo_bound r h.1
    have := yoF_len (natF r) ((natF r).lo + rowN picks t r) q2 (by omega)
    rw [readF, List.length_append, List.length_cons]
    omega
theorem readL_len (picks : List Int) (l : List Rw) : (readL picks l).length ≤ 3600000 := by
  unfold readL
  split
  · rename_i h
    have h1 := readF_len picks l 0 (ok_of h)
    have h2 := len_of_ok h
    omega
  · simp
theorem thickL_len (l : List Rw) : (thickL l).length ≤ 800 := by
  unfold thickL
  split
  · rename_i h
    have h1 := layers_len l
    have h2 := len_of_ok (lay_ok h).1
    omega
  · simp
theorem ints_canon (l : List Int) : D.canonL (l.map D.int) = true := canonL_map D.int (fun _ => rfl) l
theorem same_big (l : List Int) (hl : l.length ≤ 9000000) {n : Nat} (hn : l.length + 5 ≤ n) : pureCall (rc pg n) 17 [intsD l, intsD l] = some (.ret (D.bool true)) := by
  obtain ⟨m, rfl, e⟩ := body (pg := pg) (f := 17) (args := [intsD l, intsD l]) (show 0 < n by omega) rfl rfl
  rw [e]
  have round : ∀ n, 0 ≤ n → ∀ k s, SI l k s → Res (k17l0.ev ⟨pg, 31, none⟩ (rc pg n) s) (Rnd (SI l) (fun x s => x = .exit 0 ∧ SI l 0 s) k) := by
    rintro n hn k s ⟨x, h, i, rfl, hik, v0, v1, v5, v6⟩
    simp only [intsD] at v0 v1
    by_cases hlt : i < l.length
    · obtain ⟨r, hr⟩ : ∃ r, l[i] = r := ⟨l[i], rfl⟩
      have hw1 : IntKind.i64.wrap ((i : Int) + 1) = (i : Int) + 1 := wrap_i64 (by omega) (by omega)
      simp [k17l0, v0, v1, v5, v6, hlt, hr, D.cells, hw1]
      exact ⟨k - 1, by omega, _, _, i + 1, rfl, by omega, by simp [v0, intsD], by simp [v1, intsD], by simp, by simp⟩
    · simp [k17l0, v0, v6, hlt]
      exact ⟨_, _, i, rfl, by omega, by simp [v0, intsD], by simp [v1, intsD], by simp [v5], by simp [v6]⟩
  simp [k17, Env.v_ini, intsD, ev_loop]
  refine Res.endsAfter (lp_rule 0 (SI l) _ round l.length m _ (by omega) ⟨_, _, 0, rfl, by omega, by simp [Env.v_ini, intsD], by simp [Env.v_ini, intsD], by simp, by simp⟩) ?_
  rintro x s ⟨rfl, x, h, i, rfl, hi, v0, v1, v5, v6⟩
  simp [v5]
set_option maxHeartbeats 4000000 in
theorem reads_law (l : List Rw) (picks : List Int) {n : Nat} (hn : l.length + 4000000 ≤ n) : pureCall (rc pg n) 10 [rowsD l, intsD picks] = some (.ret (D.bool true)) := by
  obtain ⟨m, hm, e⟩ := body (pg := pg) (f := 10) (args := [rowsD l, intsD picks]) (show 0 < n by omega) rfl rfl
  rw [e]
  have hs := @sane_call m (by omega)
  have hc2 : D.canonL [rowsD l, intsD picks] = true := by simp [rowsD, intsD, ints_canon, canonL_map rowD (fun _ => rfl) l]
  have a1 := fun h => call_of (h := h) (pg := pg) (f := 48) rfl hc2 (@read_run picks l m (by omega))
  have a2 := fun h => call_of (h := h) (pg := pg) (f := 49) rfl hc2 (@rread_run picks l m (by omega))
  have a3 := fun h => call_of (h := h) (pg := pg) (f := 50) rfl (rows_canon l) (@thick_pure l m (by omega))
  have a4 := fun h => call_of (h := h) (pg := pg) (f := 51) rfl (rows_canon l) (@rthick_run l m (by omega))
  have hl1 := readL_len picks l
  have hl2 := thickL_len l
  have a5 := fun h => call_of (h := h) (pg := pg) (f := 17) rfl (show D.canonL [intsD (readL picks l), intsD (readL picks l)] = true by simp [intsD, ints_canon]) (@same_big (readL picks l) (by omega) m (by omega))
  have a6 := fun h => call_of (h := h) (pg := pg) (f := 17) rfl (show D.canonL [intsD (thickL l), intsD (thickL l)] = true by simp [intsD, ints_canon]) (@same_big (thickL l) (by omega) m (by omega))
  simp [k10, Env.v_ini, hs, a1, a2, a3, a4, a5, a6]
end Go.Proofs.YthgnholbajpdgaaDoor
