/- Needless, by the program: its rounds. -/
import Derived.Test.YtlkpikdfbodhoaaDoorNx1
namespace Go.Proofs.YtlkpikdfbodhoaaDoor
open Go Go.Em Go.Em.Net
set_option maxRecDepth 100000
def k40b : Cd :=
  .seq (.region [⟨none, some 24, .inl (.mv (.s 0))⟩,
 ⟨none, some 25, .inl (.mkf (.func 85) [] [(.s 7)])⟩,
 ⟨none, some 26, .inr (.fn 51 [(.s 24), (.s 25)])⟩,
 ⟨none, some 27, .inr (.fn 70 [(.s 26)])⟩,
 ⟨none, some 23, .inl (.mv (.s 27))⟩,
 ⟨none, some 28, .inl (.ex (.s 23) 0)⟩,
 ⟨none, some 29, .inl (.ex (.s 23) 1)⟩,
 ⟨none, some 8, .inl (.alloc 74 [(.slice none 0 0), (.slice none 0 0)])⟩,
 ⟨none, none, .inl (.st 2 (.s 8) (.s 28))⟩,
 ⟨none, some 9, .inl (.mv (.s 29))⟩])
 (.seq (.region [⟨none, some 30, .inl (.fa (.s 8) 0)⟩,
 ⟨none, some 31, .inl (.ld true 2 (.s 30))⟩,
 ⟨none, some 32, .inl (.ld true 2 (.s 4))⟩,
 ⟨none, some 33, .inr (.fn 86 [(.s 31), (.s 32)])⟩])
 (.cond (.s 33) (.region [⟨none, some 34, .inl (.mv (.s 6))⟩,
 ⟨none, some 35, .inl (.ld false 1 (.s 7))⟩,
 ⟨none, some 36, .inl (.bs 3 1 1 [(.int .i64 0)] [(0, (.s 35))])⟩,
 ⟨none, some 37, .inl (.app 3 1 8 (.s 34) (.s 36))⟩,
 ⟨none, some 6, .inl (.mv (.s 37))⟩])
 (.skip)))
theorem k40l0_eq : k40l0 = .seq (.region [⟨none, some 21, .inl (.bin .lss (.s 20) (.s 19))⟩])
 (.seq (.cond (.s 21) (.skip)
 (.exit 0))
 (.seq (.block 1 (.seq (.region [⟨none, some 22, .inl (.mv (.s 20))⟩,
 ⟨none, some 7, .inl (.alloc 3 [(.int .i64 0)])⟩,
 ⟨none, none, .inl (.st 1 (.s 7) (.s 22))⟩])
  k40b))
 (.region [⟨none, some 38, .inl (.bin .add (.s 20) (.c (.int .i64 1)))⟩,
 ⟨none, some 20, .inl (.mv (.s 38))⟩]))) := rfl
def NDo (l : List Clm) (b4 : Nat) (i : Nat) (x0 : Env 40) (z : Ex) (s : St) : Prop := z = .normal ∧ ∃ (x : Env 40) (h : Heap), s = ⟨x.l, h, []⟩ ∧ x.v 0 = x0.v 0 ∧ x.v 4 = x0.v 4 ∧ x.v 19 = x0.v 19 ∧ x.v 20 = x0.v 20 ∧ h.Fr ∧ b4 < h.next ∧
  h.get b4 = some (.cells 40 [intsD (marksF l), rowsD (marksF l).length (encM (cloF l))]) ∧ GZ 3 1 (ndL l (i + 1)).length (ndD (ndL l (i + 1))) h (x.v 6)
set_option maxHeartbeats 8000000 in
theorem ndb_run (l : List Clm) (h0 : chkF l = 0) (hb : badF l = false) {n : Nat} (hn : 3000 ≤ n) (x : Env 40) (h : Heap) (i b4 b7 : Nat) (hi : i < l.length) (v0 : x.v 0 = clsD l) (v4 : x.v 4 = .ptr b4 0) (v7 : x.v 7 = .ptr b7 0)
    (g4 : h.get b4 = some (.cells 40 [intsD (marksF l), rowsD (marksF l).length (encM (cloF l))])) (g7 : h.get b7 = some (.cells 3 [D.int i])) (hf : h.Fr) (n4 : b4 < h.next) (n7 : b7 < h.next)
    (z : GZ 3 1 (ndL l i).length (ndD (ndL l i)) h (x.v 6)) (hz7 : ∀ k m c, x.v 6 = .slr k 0 m 1 c → k ≠ b7) : Res (k40b.ev ⟨pg, 40, none⟩ (rc pg n) ⟨x.l, h, []⟩) (NDo l b4 i x) := by
  have ne47 : b4 ≠ b7 := fun e => by rw [e, g7] at g4; cases g4
  obtain ⟨hl1, hl2, hl3⟩ := chk_ok h0
  have hU := used_run h0 hb (ndU i) (f := n) (by omega)
  have hz : each (Go.Em.frz (h.bump 40) depth) [clsD l, .fn (.func 85) [] [.ptr b7 0]] = some ([clsD l, .fn (.func 85) [] [.eref [D.int i]]], [b7]) := by
    have hcl := cls_canon l
    simp only [D.canonL, Bool.and_true] at hcl
    have e1 : Go.Em.frz (h.bump 40) depth (clsD l) = some (clsD l, []) := frz_canon hcl
    have e2 : Go.Em.frz (h.bump 40) depth (.fn (.func 85) [] [.ptr b7 0]) = some (.fn (.func 85) [] [.eref [D.int i]], [b7]) := by
      show Go.Em.frz (h.bump 40) (22 + 2) _ = _
      rw [frz_fn]
      simp [each, g7]
    simp only [each, e1, e2, List.nil_append, List.append_nil]
  have g51 := graphu_run l h0 (ndU i) 85 [.eref [D.int i]] rfl rfl 80 (by omega) (fun n hn k _ => c85_run i hn k) (n := n) (by omega)
  obtain ⟨H, c51, hH1, hH2, hH3, hH4, bb, hH5⟩ := call_cell (hf.bump 40) (show pg.sh 51 = false from rfl) (k := b7) (i := (i : Int)) (by simpa using g7) (by simp; omega) hz g51
  have c70 := fun h => call_of (h := h) (pg := pg) (f := 70) rfl (gr_canon _ _) hU.2
  have hV : (marksF (ndV l i)).length ≤ 64 := Nat.le_trans (rise_len _ _ (marks_rise _) (marks_rise l) marks_used) hl3
  have c86 := fun h => call_of (h := h) (pg := pg) (f := 86) rfl (by simp [nD, intsD, rowsD, ints_canonL, rows_canonL]) (same_run (marksF (uF (ndU i) 0 l)) (encM (cloF (uF (ndU i) 0 l))) (marksF l) (encM (cloF l)) hV hl3 (n := n) (by omega))
  have hH2' : H.next = h.next + 40 := hH2
  have hfr0 : H.raw (h.next + 8) = none := by
    rw [hH3 _ (by omega)]; exact hf _ (by omega)
  have hfr6 : H.raw (h.next + 116) = none := hH1 _ (by rw [hH2']; omega)
  have hfr7 : H.raw (h.next + 117) = none := hH1 _ (by rw [hH2']; omega)
  have n1 : ∀ j, (b4 = h.next + j) = False := fun j => by simp; omega
  have n2 : ∀ j, (b7 = h.next + j) = False := fun j => by simp; omega
  have hg4 : H.get b4 = some (.cells 40 [intsD (marksF l), rowsD (marksF l).length (encM (cloF l))]) := by
    unfold Heap.get; rw [hH3 b4 ne47]; simpa [Heap.get] using g4
  have hg4' := hg4
  rw [rdc_is] at hH4
  simp only [nD, intsD, rowsD, grD, mosD, clsD] at c51 c70 c86 v0 hg4
  have hT := ndL_succ l i
  cases hc : ndT l i with
  | false =>
    have e86 : sN (marksF (uF (ndU i) 0 l)) (encM (cloF (uF (ndU i) 0 l))) (marksF l) (encM (cloF l)) = false := hc
    rw [e86] at c86
    simp [k40b, v0, v4, v7, c51, c70, c86, hfr0, hH2', n1, hg4, D.cells, D.one]
    refine ⟨rfl, _, _, rfl, by simp, by simp, by simp, by simp, ?_, by simp; omega, by simp [hg4', n1], ?_⟩
    · repeat' first | exact hH1 | apply Heap.Fr.bump | apply Heap.Fr.set
      all_goals first | omega | (simp; done) | (simp; omega)
    · have e1 : ndL l (i + 1) = ndL l i := by rw [hT, hc]; simp
      rw [e1]
      rcases z with ⟨z1, z2⟩ | ⟨z0, k, z1, z2, z3⟩
      · exact .inl ⟨z1, by simp [z2]⟩
      · have hkz : k ≠ b7 := hz7 _ _ _ z1
        have m1 : ∀ j, (k = h.next + j) = False := fun j => by simp; omega
        refine .inr ⟨z0, k, by simp [z1], ?_, by simp; omega⟩
        have z2' : H.get k = some (.cells 3 (ndD (ndL l i))) := by unfold Heap.get; rw [hH3 k hkz]; simpa [Heap.get] using z2
        simp [z2', m1]
  | true =>
    have e86 : sN (marksF (uF (ndU i) 0 l)) (encM (cloF (uF (ndU i) 0 l))) (marksF l) (encM (cloF l)) = true := hc
    rw [e86] at c86
    have w37 : zerosD [.int .i64 0] 1 1 = [D.int 0] := rfl
    rcases z with ⟨z1, z2⟩ | ⟨z0, k, z1, z2, z3⟩
    · simp [k40b, v0, v4, v7, c51, c70, c86, hfr0, hfr6, hfr7, hH2', hH4, Heap.fzd_set, n1, n2, hg4, z2, w37, apK, room, maxLen, D.cells, D.one, Nat.add_assoc]
      refine ⟨rfl, _, _, rfl, by simp, by simp, by simp, by simp, ?_, by simp; omega, by simp [hg4', n1], ?_⟩
      · repeat' first | exact hH1 | apply Heap.Fr.bump | apply Heap.Fr.set
        all_goals first | omega | (simp; done) | (simp; omega)
      · have e0 : ndL l i = [] := List.eq_nil_of_length_eq_zero z1
        have e1 : ndL l (i + 1) = [i] := by rw [hT, hc, e0]; rfl
        rw [e1]
        refine .inr ⟨by simp, _, by simp; rfl, by simp [ndD], by simp; omega⟩
    · have hkz : k ≠ b7 := hz7 _ _ _ z1
      have m1 : ∀ j, (k = h.next + j) = False := fun j => by simp; omega
      have m2 : ∀ j, (h.next + j = k) = False := fun j => by simp; omega
      have z2' : H.get k = some (.cells 3 (ndD (ndL l i))) := by unfold Heap.get; rw [hH3 k hkz]; simpa [Heap.get] using z2
      obtain ⟨N, hN⟩ : ∃ N, N = (ndL l i).length := ⟨_, rfl⟩
      have hNl : N ≤ i := by rw [hN]; exact ndL_len l i
      have happ : ∀ (t : Nat) (h : Heap), appS t 3 1 8 h 1 [D.int i] k 0 N 1 none (some (.cells 3 (ndD (ndL l i)))) = ((h.set k none).alloc t (.cells 3 (ndD (ndL l i) ++ [D.int i]))).map fun h => (.slr t 0 (N + 1) 1 none, h) := fun t h =>
        appS_none (by simp [ndD, hN]) (by omega) (by unfold room; omega) (by unfold maxLen; omega)
      rw [← hN] at z1
      have m3 : (k = b4) = False := by simp; intro e; rw [e, g4] at z2; cases z2
      have m4 : (b4 = k) = False := by simp; intro e; rw [← e, g4] at z2; cases z2
      have m5 : (b7 = k) = False := by simp; exact fun e => hkz e.symm
      simp [k40b, v0, v4, v7, c51, c70, c86, hfr0, hfr6, hfr7, hH2', hH4, Heap.fzd_set, n1, n2, hg4, z1, z2', w37, apK_some, happ, m1, m2, D.cells, D.one, Nat.add_assoc]
      refine ⟨rfl, _, _, rfl, by simp, by simp, by simp, by simp, ?_, by simp; omega, by simp [hg4', n1, m4], ?_⟩
      · repeat' first | exact hH1 | apply Heap.Fr.bump | apply Heap.Fr.set
        all_goals first | omega | (simp; done) | (simp; omega)
      · have e1 : ndL l (i + 1) = ndL l i ++ [i] := by rw [hT, hc]; rfl
        rw [e1]
        refine .inr ⟨by simp, _, by simp [hN]; rfl, by simp [ndD], by simp; omega⟩
def NDg (l : List Clm) (b4 : Nat) (k : Nat) (s : St) : Prop := ∃ (x : Env 40) (h : Heap) (i : Nat), s = ⟨x.l, h, []⟩ ∧ i + k = l.length ∧ x.v 0 = clsD l ∧ x.v 4 = .ptr b4 0 ∧ x.v 19 = D.int l.length ∧ x.v 20 = D.int i ∧ h.Fr ∧ b4 < h.next ∧
  h.get b4 = some (.cells 40 [intsD (marksF l), rowsD (marksF l).length (encM (cloF l))]) ∧ GZ 3 1 (ndL l i).length (ndD (ndL l i)) h (x.v 6)
set_option maxHeartbeats 4000000 in
theorem ndl_round (l : List Clm) (h0 : chkF l = 0) (hb : badF l = false) (b4 : Nat) : ∀ n, 3000 ≤ n → ∀ k s, NDg l b4 k s → Res (k40l0.ev ⟨pg, 40, none⟩ (rc pg n) s) (Rnd (NDg l b4) (fun z s => z = .exit 0 ∧ NDg l b4 0 s) k) := by
  rintro n hn k s ⟨x, h, i, rfl, hik, v0, v4, v19, v20, hf, n4, g4, z⟩
  obtain ⟨hl1, _, _⟩ := chk_ok h0
  rw [k40l0_eq]
  by_cases hi : i < l.length
  · have hfr : ∀ j, h.raw (h.next + j) = none := fun j => hf _ (by omega)
    have n1 : ∀ j, (b4 = h.next + j) = False := fun j => by simp; omega
    have w1 : IntKind.i64.wrap ((i : Int) + 1) = (i : Int) + 1 := wrap_i64 (by omega) (by omega)
    have hi' : (i : Int) < l.length := by omega
    simp [v19, v20, hi', hfr, D.cells, D.one, Nat.add_assoc]
    refine Res.after (ndb_run l h0 hb hn _ _ i b4 (h.next + 47) hi (by simp [v0]) (by simp [v4]) (by simp) (by simp [g4, n1]) (by simp) ?_ (by simp; omega) (by simp) ?_ ?_) ?_
    · repeat' first | exact hf | apply Heap.Fr.bump | apply Heap.Fr.set
      all_goals first | omega | (simp; done) | (simp; omega)
    · rcases z with ⟨z1, z2⟩ | ⟨z0, q, z1, z2, z3⟩
      · exact .inl ⟨z1, by simp [z2]⟩
      · have m1 : ∀ j, (q = h.next + j) = False := fun j => by simp; omega
        exact .inr ⟨z0, q, by simp [z1], by simp [z2, m1], by simp; omega⟩
    · intro q m c e
      rcases z with ⟨z1, z2⟩ | ⟨z0, q', z1, z2, z3⟩
      · simp [z2] at e
      · simp [z1] at e
        omega
    · rintro z' s ⟨rfl, x', h', rfl, u0, u4, u19, u20, f', n', g', zz⟩
      simp [v0, v4, v19, v20] at u0 u4 u19 u20
      simp [u20, w1]
      exact ⟨k - 1, by omega, _, _, i + 1, rfl, by omega, by simp [u0], by simp [u4], by simp [u19], by simp, f'.bump _, by simp; omega, by simpa using g', by simpa using zz.keep (h' := h'.bump 40) (by simp) (fun _ _ => rfl)⟩
  · have hie : i = l.length := by omega
    subst hie
    simp [v19, v20]
    exact ⟨_, _, l.length, rfl, by omega, by simp [v0], by simp [v4], by simp [v19], by simp [v20], hf.bump _, by simp; omega, by simpa using g4, by simpa using z.keep (h' := h.bump 40) (by simp) (fun _ _ => rfl)⟩
theorem ndD_canon (l : List Nat) : D.canonL (ndD l) = true := canonL_map _ (fun _ => rfl) l
def ndR (l : List Clm) : D := .tup [if cerF l = 0 then .sl false (ndD (ndL l l.length)) else .sl false [], D.int (cerF l)]
set_option maxHeartbeats 4000000 in
theorem need_run (l : List Clm) {n : Nat} (hn : 5000 ≤ n) : pureCall (rc pg n) 40 [clsD l] = some (.ret (ndR l)) := by
  obtain ⟨m, rfl, e⟩ := body (pg := pg) (f := 40) (args := [clsD l]) (show 0 < n by omega) rfl rfl
  rw [e]
  have c25 := fun h => call_of (h := h) (pg := pg) (f := 25) rfl (cls_canon l) (@close_run l m (by omega))
  simp only [clsD, cloD'] at c25
  by_cases hce : cerF l = 0
  · have h0 : chkF l = 0 ∧ badF l = false := by
      unfold cerF at hce
      split at hce
      · rename_i h; exact absurd hce h
      · rename_i h
        split at hce
        · cases hce
        · rename_i h2; exact ⟨by simpa using h, by simpa using h2⟩
    rw [if_pos hce] at c25
    have hR : ndR l = .tup [.sl false (ndD (ndL l l.length)), D.int 0] := by unfold ndR; rw [if_pos hce, hce]
    rw [hR]
    simp only [nD, intsD, rowsD, hce] at c25
    simp [k40, Env.v_ini, clsD, D.cells, D.one, c25, ev_loop]
    have hl1 := (chk_ok h0.1).1
    refine Res.endsAfter (lp_rule 3000 (NDg l 44) _ (ndl_round l h0.1 h0.2 44) l.length m _ (by omega) ⟨_, _, 0, rfl, by omega, by simp [clsD, Env.v_ini], by simp, by simp, by simp, ?_, by simp, by simp [intsD, rowsD], .inl ⟨rfl, by simp⟩⟩) ?_
    · repeat' first | exact Heap.Fr.empty | apply Heap.Fr.bump | apply Heap.Fr.set
      all_goals first | omega | (simp; done) | (simp; omega)
    · rintro z s ⟨rfl, x, h, i, rfl, hi, _, _, _, _, _, _, _, z⟩
      obtain rfl : i = l.length := by omega
      rcases z with ⟨z1, z2⟩ | ⟨z0, q, z1, z2, z3⟩
      · have e0 : ndL l l.length = [] := List.eq_nil_of_length_eq_zero z1
        simp [z2, e0, ndD]
      · have hz := each_canon (h.bump 40) 21 _ (ndD_canon (ndL l l.length))
        have hch := chunk_one (ndL l l.length).length (ndD (ndL l l.length)) (by simp [ndD])
        have hln : (ndD (ndL l l.length)).length = (ndL l l.length).length := by simp [ndD]
        have htk : (ndD (ndL l l.length)).take (ndL l l.length).length = ndD (ndL l l.length) := List.take_of_length_le (by omega)
        simp only [Nat.reduceAdd] at hz
        simp [z1, z2, hln, htk, hz, hch, depth]
  · have hR : ndR l = .tup [.sl false [], D.int (cerF l)] := by unfold ndR; rw [if_neg hce]
    rw [hR]
    rw [if_neg hce] at c25
    have e2 : (cerF l != 0) = true := by simpa using hce
    simp [-bne_iff_ne, -beq_eq_false_iff_ne, k40, Env.v_ini, clsD, nilN, D.cells, D.one, c25, e2]
end Go.Proofs.YtlkpikdfbodhoaaDoor
