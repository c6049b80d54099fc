/- Needless, by the document; the law. -/
import Derived.Test.YtlkpikdfbodhoaaDoorNx4
namespace Go.Proofs.YtlkpikdfbodhoaaDoor
open Go Go.Em Go.Em.Net
set_option maxRecDepth 100000
set_option maxHeartbeats 4000000 in
theorem needD_run (l : List Clm) {n : Nat} (hn : 5000 ≤ n) : pureCall (rc pg n) 41 [clsD l] = some (.ret (ndR l)) := by
  obtain ⟨m, rfl, e⟩ := body (pg := pg) (f := 41) (args := [clsD l]) (show 0 < n by omega) rfl rfl
  rw [e]
  have c87 := fun h => call_of (h := h) (pg := pg) (f := 87) rfl (cls_canon l) (@rclose_all l m (by omega))
  simp only [clsD] at c87
  by_cases hce : cerF l = 0
  · have h0 : chkF l = 0 ∧ badF l = false := by
      unfold cerF at hce
      split at hce
      · rename_i h; exact absurd hce h
      · rename_i h
        split at hce
        · cases hce
        · rename_i h2; exact ⟨by simpa using h, by simpa using h2⟩
    rw [if_pos hce] at c87
    have hR : ndR l = .tup [.sl false (ndD (ndL l l.length)), D.int 0] := by unfold ndR; rw [if_pos hce, hce]
    rw [hR]
    simp only [nD, intsD, rowsD, hce] at c87
    simp [k41, Env.v_ini, clsD, D.cells, D.one, c87, ev_loop]
    have hl1 := (chk_ok h0.1).1
    refine Res.endsAfter (lp_rule 3000 (NEg l 50) _ (nel_round l h0.1 h0.2 50) l.length m _ (by omega) ⟨_, _, 0, rfl, by omega, by simp [clsD, Env.v_ini], by simp, by simp, by simp, ?_, by simp, by simp [intsD, rowsD], .inl ⟨rfl, by simp⟩⟩) ?_
    · repeat' first | exact Heap.Fr.empty | apply Heap.Fr.bump | apply Heap.Fr.set
      all_goals first | omega | (simp; done) | (simp; omega)
    · rintro z s ⟨rfl, x, h, i, rfl, hi, _, _, _, _, _, _, _, z⟩
      obtain rfl : i = l.length := by omega
      rcases z with ⟨z1, z2⟩ | ⟨z0, q, z1, z2, z3⟩
      · have e0 : ndL l l.length = [] := List.eq_nil_of_length_eq_zero z1
        simp [z2, e0, ndD]
      · have hz := each_canon (h.bump 46) 21 _ (ndD_canon (ndL l l.length))
        have hch := chunk_one (ndL l l.length).length (ndD (ndL l l.length)) (by simp [ndD])
        have hln : (ndD (ndL l l.length)).length = (ndL l l.length).length := by simp [ndD]
        have htk : (ndD (ndL l l.length)).take (ndL l l.length).length = ndD (ndL l l.length) := List.take_of_length_le (by omega)
        simp only [Nat.reduceAdd] at hz
        simp [z1, z2, hln, htk, hz, hch, depth]
  · have hR : ndR l = .tup [.sl false [], D.int (cerF l)] := by unfold ndR; rw [if_neg hce]
    rw [hR]
    rw [if_neg hce] at c87
    have e2 : (cerF l != 0) = true := by simpa using hce
    simp [-bne_iff_ne, -beq_eq_false_iff_ne, k41, Env.v_ini, clsD, nilN, D.cells, D.one, c87, e2]
theorem ndD_ints (l : List Nat) : D.sl false (ndD l) = intsD (l.map Int.ofNat) := by
  unfold ndD intsD
  rw [List.map_map]; rfl
theorem nd_same (l : List Clm) {n : Nat} (hn : 4100 ≤ n) : ∃ d, (d = if cerF l = 0 then D.sl false (ndD (ndL l l.length)) else .sl false []) ∧ pureCall (rc pg n) 30 [d, d] = some (.ret (D.bool true)) ∧ D.canon d = true := by
  refine ⟨_, rfl, ?_⟩
  by_cases hce : cerF l = 0
  · have hl1 : l.length ≤ 400 := by
      unfold cerF at hce
      split at hce
      · rename_i h; exact absurd hce h
      · rename_i h
        exact (chk_ok (by simpa using h)).1
    have hL := ndL_len l l.length
    rw [if_pos hce, ndD_ints, sameI_run _ _ (by simp; omega) (by simp; omega), sameF_self]
    refine ⟨rfl, ?_⟩; show D.canonL _ = true; exact ints_canonL _
  · rw [if_neg hce]
    have := sameI_run [] [] (by simp) (n := n) (by simp; omega)
    rw [sameF_self] at this
    exact ⟨this, rfl⟩
set_option maxHeartbeats 2000000 in
theorem need_law (l : List Clm) {n : Nat} (hn : 6000 ≤ n) : pureCall (rc pg n) 9 [clsD l] = some (.ret (.val (.bool true))) := by
  obtain ⟨m, rfl, e⟩ := body (pg := pg) (f := 9) (args := [clsD l]) (show 0 < n by omega) rfl rfl
  rw [e]
  have c40 := fun h => call_of (h := h) (pg := pg) (f := 40) rfl (cls_canon l) (@need_run l m (by omega))
  have c41 := fun h => call_of (h := h) (pg := pg) (f := 41) rfl (cls_canon l) (@needD_run l m (by omega))
  obtain ⟨d, hd, x, hc⟩ := nd_same l (n := m) (by omega)
  have c30 := fun h => call_of (h := h) (pg := pg) (f := 30) rfl (by simp [D.canonL, hc]) x
  have c11 := sane_call (n := m) (by omega)
  have hR : ndR l = .tup [d, D.int (cerF l)] := by rw [hd]; rfl
  rw [hR] at c40 c41
  simp only [clsD] at c40 c41
  have ho : d.one = true := by rw [hd]; split <;> rfl
  have hcl : d.cells = [d] := by rw [hd]; split <;> rfl
  simp [k9, Env.v_ini, clsD, c40, c41, c30, c11]
end Go.Proofs.YtlkpikdfbodhoaaDoor
