/- Needless, by the document; the law. -/
import Derived.Test.YtlkpikdfbodhoaaDoorNx3
import Derived.Test.YtlkpikdfbodhoaaDoorBnd
import Derived.Test.YtlkpikdfbodhoaaDoorPl
namespace Go.Proofs.YtlkpikdfbodhoaaDoor
open Go Go.Em Go.Em.Net
set_option maxRecDepth 100000
def NEo (l : List Clm) (b4 : Nat) (i : Nat) (x0 : Env 46) (z : Ex) (s : St) : Prop := z = .normal ∧ ∃ (x : Env 46) (h : Heap), s = ⟨x.l, h, []⟩ ∧ x.v 0 = x0.v 0 ∧ x.v 4 = x0.v 4 ∧ x.v 19 = x0.v 19 ∧ x.v 20 = x0.v 20 ∧ h.Fr ∧ b4 < h.next ∧
  h.get b4 = some (.cells 40 [intsD (marksF l), rowsD (marksF l).length (encM (cloF l))]) ∧ GZ 3 1 (ndL l (i + 1)).length (ndD (ndL l (i + 1))) h (x.v 6)
set_option maxHeartbeats 8000000 in
theorem nec_run (l : List Clm) (h0 : chkF l = 0) {n : Nat} (hn : 3000 ≤ n) (x : Env 46) (h : Heap) (i b4 b8 : Nat) (hi : i < l.length) (v4 : x.v 4 = .ptr b4 0) (v7 : x.v 7 = D.int i) (v8 : x.v 8 = .ptr b8 0)
    (g4 : h.get b4 = some (.cells 40 [intsD (marksF l), rowsD (marksF l).length (encM (cloF l))])) (g8 : h.get b8 = some (.cells 40 [intsD (marksF (ndV l i)), rowsD (marksF (ndV l i)).length (encM (cloF (ndV l i)))])) (hf : h.Fr) (n4 : b4 < h.next) (n8 : b8 < h.next)
    (z : GZ 3 1 (ndL l i).length (ndD (ndL l i)) h (x.v 6)) : Res (k41c.ev ⟨pg, 46, none⟩ (rc pg n) ⟨x.l, h, []⟩) (NEo l b4 i x) := by
  obtain ⟨hl1, hl2, hl3⟩ := chk_ok h0
  have hV : (marksF (ndV l i)).length ≤ 64 := Nat.le_trans (rise_len _ _ (marks_rise _) (marks_rise l) marks_used) hl3
  have c23 := fun h => call_of (h := h) (pg := pg) (f := 23) rfl (by simp [nD, intsD, rowsD, ints_canonL, rows_canonL]) (samen_run (marksF l) (encM (cloF l)) (marksF (ndV l i)) (encM (cloF (ndV l i))) hl3 hV (n := n) (by omega))
  have hcc : sN (marksF l) (encM (cloF l)) (marksF (ndV l i)) (encM (cloF (ndV l i))) = ndT l i := by rw [sN_comm]; rfl
  rw [hcc] at c23
  have hfr : ∀ j, h.raw (h.next + j) = none := fun j => hf _ (by omega)
  have n1 : ∀ j, (b4 = h.next + j) = False := fun j => by simp; omega
  have n2 : ∀ j, (b8 = h.next + j) = False := fun j => by simp; omega
  have hg4 := g4
  simp only [nD, intsD, rowsD] at c23 g4 g8
  have hT := ndL_succ l i
  cases hc : ndT l i with
  | false =>
    rw [hc] at c23
    simp [k41c, v4, v8, g4, g8, c23]
    refine ⟨rfl, _, _, rfl, by simp, by simp, by simp, by simp, ?_, (by simp <;> omega), by simp [hg4], ?_⟩
    · repeat' first | exact hf | apply Heap.Fr.bump | apply Heap.Fr.set
      all_goals first | omega | (simp; done) | (simp; omega)
    · have e1 : ndL l (i + 1) = ndL l i := by rw [hT, hc]; simp
      rw [e1]
      simpa using z.keep (h' := (h.bump 46)) (by simp) (fun _ _ => rfl)
  | true =>
    rw [hc] at c23
    have w37 : zerosD [.int .i64 0] 1 1 = [D.int 0] := rfl
    rcases z with ⟨z1, z2⟩ | ⟨z0, k, z1, z2, z3⟩
    · simp [k41c, v4, v7, v8, g4, g8, c23, hfr, z2, w37, apK, room, maxLen, D.cells, D.one, Nat.add_assoc]
      refine ⟨rfl, _, _, rfl, by simp, by simp, by simp, by simp, ?_, (by simp <;> omega), by simp [hg4, n1], ?_⟩
      · repeat' first | exact hf | apply Heap.Fr.bump | apply Heap.Fr.set
        all_goals first | omega | (simp; done) | (simp; omega)
      · have e0 : ndL l i = [] := List.eq_nil_of_length_eq_zero z1
        have e1 : ndL l (i + 1) = [i] := by rw [hT, hc, e0]; rfl
        rw [e1]
        refine .inr ⟨by simp, _, by simp; rfl, by simp [ndD], (by simp <;> omega)⟩
    · have m1 : ∀ j, (k = h.next + j) = False := fun j => by simp; omega
      have m2 : ∀ j, (h.next + j = k) = False := fun j => by simp; omega
      obtain ⟨N, hN⟩ : ∃ N, N = (ndL l i).length := ⟨_, rfl⟩
      have hNl : N ≤ i := by rw [hN]; exact ndL_len l i
      have happ : ∀ (t : Nat) (h : Heap), appS t 3 1 8 h 1 [D.int i] k 0 N 1 none (some (.cells 3 (ndD (ndL l i)))) = ((h.set k none).alloc t (.cells 3 (ndD (ndL l i) ++ [D.int i]))).map fun h => (.slr t 0 (N + 1) 1 none, h) := fun t h =>
        appS_none (by simp [ndD, hN]) (by omega) (by unfold room; omega) (by unfold maxLen; omega)
      rw [← hN] at z1
      have m3 : (k = b4) = False := by simp; intro e; rw [e, g4] at z2; cases z2
      have m4 : (b4 = k) = False := by simp; intro e; rw [← e, g4] at z2; cases z2
      simp [k41c, v4, v7, v8, g4, g8, c23, hfr, z1, z2, w37, apK_some, happ, m1, m2, D.cells, D.one, Nat.add_assoc]
      refine ⟨rfl, _, _, rfl, by simp, by simp, by simp, by simp, ?_, (by simp <;> omega), by simp [hg4, n1, m4], ?_⟩
      · repeat' first | exact hf | apply Heap.Fr.bump | apply Heap.Fr.set
        all_goals first | omega | (simp; done) | (simp; omega)
      · have e1 : ndL l (i + 1) = ndL l i ++ [i] := by rw [hT, hc]; rfl
        rw [e1]
        refine .inr ⟨by simp, _, by simp [hN]; rfl, by simp [ndD], (by simp <;> omega)⟩
def NEg (l : List Clm) (b4 : Nat) (k : Nat) (s : St) : Prop := ∃ (x : Env 46) (h : Heap) (i : Nat), s = ⟨x.l, h, []⟩ ∧ i + k = l.length ∧ x.v 0 = clsD l ∧ x.v 4 = .ptr b4 0 ∧ x.v 19 = D.int l.length ∧ x.v 20 = D.int i ∧ h.Fr ∧ b4 < h.next ∧
  h.get b4 = some (.cells 40 [intsD (marksF l), rowsD (marksF l).length (encM (cloF l))]) ∧ GZ 3 1 (ndL l i).length (ndD (ndL l i)) h (x.v 6)
def NEq (l : List Clm) (b4 i : Nat) (z : Ex) (s : St) : Prop := z = .normal ∧ ∃ (x : Env 46) (h : Heap), s = ⟨x.l, h, []⟩ ∧ x.v 0 = clsD l ∧ x.v 4 = .ptr b4 0 ∧ x.v 19 = D.int l.length ∧ x.v 20 = D.int i ∧ h.Fr ∧ b4 < h.next ∧
  h.get b4 = some (.cells 40 [intsD (marksF l), rowsD (marksF l).length (encM (cloF l))]) ∧ GZ 3 1 (ndL l (i + 1)).length (ndD (ndL l (i + 1))) h (x.v 6)
set_option maxHeartbeats 4000000 in
theorem nel_round (l : List Clm) (h0 : chkF l = 0) (hb : badF l = false) (b4 : Nat) : ∀ n, 3000 ≤ n → ∀ k s, NEg l b4 k s → Res (k41l0.ev ⟨pg, 46, none⟩ (rc pg n) s) (Rnd (NEg l b4) (fun z s => z = .exit 0 ∧ NEg l b4 0 s) k) := by
  rintro n hn k s ⟨x, h, i, rfl, hik, v0, v4, v19, v20, hf, n4, g4, z⟩
  obtain ⟨hl1, _, _⟩ := chk_ok h0
  rw [k41l0_eq]
  by_cases hi : i < l.length
  · have hfr : ∀ j, h.raw (h.next + j) = none := fun j => hf _ (by omega)
    have n1 : ∀ j, (b4 = h.next + j) = False := fun j => by simp; omega
    have w1 : IntKind.i64.wrap ((i : Int) + 1) = (i : Int) + 1 := wrap_i64 (by omega) (by omega)
    have hi' : (i : Int) < l.length := by omega
    simp [v19, v20, hi']
    refine Res.after (P := NEq l b4 i) (Res.bind (ncd_run l h0 hb hn _ _ i b4 hi (by simp [v0]) (by simp) ?_) ?_) ?_
    · repeat' first | exact hf | apply Heap.Fr.bump | apply Heap.Fr.set
      all_goals first | omega | (simp; done) | (simp; omega)
    · rintro z' s ⟨rfl, x', h', rfl, u0, u4, u6, u7, u8, u19, u20, f', n', gq, g8⟩
      simp [v0, v4, v19, v20] at u0 u4 u6 u7 u8 u19 u20
      simp at n' gq g8
      refine (nec_run l h0 hn x' h' i b4 _ hi u4 u7 u8 ?_ g8 f' (by omega) (by omega) ?_).mono ?_
      · rw [gq b4 (by omega)]; simpa using g4
      · rcases z with ⟨z1, z2⟩ | ⟨z0, q, z1, z2, z3⟩
        · exact .inl ⟨z1, by simp [u6, z2]⟩
        · exact .inr ⟨z0, q, by simp [u6, z1], by rw [gq q (by omega)]; simpa using z2, by omega⟩
      · rintro z s ⟨rfl, x'', h'', rfl, t0, t4, t19, t20, f'', n'', g'', zz⟩
        exact ⟨rfl, x'', h'', rfl, by rw [t0, u0], by rw [t4, u4], by rw [t19, u19], by rw [t20, u20], f'', n'', g'', zz⟩
    · rintro z' s ⟨rfl, x'', h'', rfl, t0, t4, t19, t20, f'', n'', g'', zz⟩
      simp [t20, w1]
      exact ⟨k - 1, by omega, _, _, i + 1, rfl, by omega, by simp [t0], by simp [t4], by simp [t19], by simp, f''.bump _, by simp; omega, by simpa using g'', by simpa using zz.keep (h' := h''.bump 46) (by simp) (fun _ _ => rfl)⟩
  · have hie : i = l.length := by omega
    subst hie
    simp [v19, v20]
    exact ⟨_, _, l.length, rfl, by omega, by simp [v0], by simp [v4], by simp [v19], by simp [v20], hf.bump _, by simp; omega, by simpa using g4, by simpa using z.keep (h' := h.bump 46) (by simp) (fun _ _ => rfl)⟩
end Go.Proofs.YtlkpikdfbodhoaaDoor
