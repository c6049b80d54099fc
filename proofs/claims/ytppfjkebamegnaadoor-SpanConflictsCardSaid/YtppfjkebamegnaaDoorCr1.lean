/- The document's own: the claims of some sources, a list without a number, whether claims have a chronology. -/
import Derived.Test.YtppfjkebamegnaaDoorCf4
import Derived.Test.YtppfjkebamegnaaDoorSh1
namespace Go.Proofs.YtppfjkebamegnaaDoor
open Go Go.Em Go.Em.Net
set_option maxRecDepth 100000
theorem hasr_run (l : List Int) (hl : l.length ≤ 20000000000000) (v : Int) {n : Nat} (hn : l.length + 6 ≤ n) : pureCall (rc pg n) 94 [intsD l, D.int v] = some (.ret (D.bool (hasI l v))) := by
  obtain ⟨m, rfl, e⟩ := body (pg := pg) (f := 94) (args := [intsD l, D.int v]) (show 0 < n by omega) rfl rfl
  rw [e]
  have ci := fun h => call_of (h := h) (pg := pg) (f := 56) rfl (by simp [intsD, ints_canonL]) (@index_run l hl v m (by omega))
  have ha := ixP_any (· == v) l 0
  simp only [intsD] at ci
  obtain ⟨z, hz⟩ : ∃ z, z = ixP (· == v) 0 l := ⟨_, rfl⟩
  rw [← hz] at ci ha
  have hb : hasI l v = decide (z ≥ 0) := by unfold hasI; exact ha.symm
  rw [hb]
  simp [k94, Env.v_ini, intsD, ci]
theorem only_snoc (l : List Clm) (bl : List Int) (c : Clm) : onlyF (l ++ [c]) (hasI bl) = if hasI bl c.by_ = true then onlyF l (hasI bl) ++ [c] else onlyF l (hasI bl) := by
  unfold onlyF
  rw [List.filter_append]
  split
  · rename_i h; simp [h]
  · rename_i h; simp [h]
theorem only_le (l : List Clm) (P : Int → Bool) : (onlyF l P).length ≤ l.length := List.length_filter_le _ _
def OnI (l : List Clm) (bl : List Int) (k : Nat) (s : St) : Prop := ∃ (x : Env 24) (h : Heap) (i : Nat) (d : D), s = ⟨x.l, h, []⟩ ∧ i + k = l.length ∧ x.v 8 = clsD l ∧ x.v 9 = D.int l.length ∧ x.v 10 = D.int i ∧ x.v 1 = intsD bl ∧ x.v 5 = d ∧ GC h d (onlyF (l.take i) (hasI bl)) ∧ h.Fr
set_option maxHeartbeats 4000000 in
theorem only_round (l : List Clm) (bl : List Int) (hl : l.length * 40 ≤ 140737488355328) (hb : bl.length ≤ 20000000000000) : ∀ n, bl.length + 10 ≤ n → ∀ k s, OnI l bl k s → Res (k81l0.ev ⟨pg, 24, none⟩ (rc pg n) s) (Rnd (OnI l bl) (fun x s => x = .exit 0 ∧ OnI l bl 0 s) k) := by
  rintro n hn k s ⟨x, h, i, d, rfl, hik, v8, v9, v10, v1, v5, hd, hf⟩
  simp only [clsD] at v8
  by_cases hi : i < l.length
  · obtain ⟨c, hc⟩ : ∃ c, l[i] = c := ⟨_, rfl⟩
    have htk : l.take (i + 1) = l.take i ++ [c] := by rw [List.take_add_one, List.getElem?_eq_getElem hi, hc]; rfl
    have hsn := only_snoc (l.take i) bl c
    rw [← htk] at hsn
    have hle := only_le (l.take i) (hasI bl)
    rw [List.length_take] at hle
    obtain ⟨O, hO⟩ : ∃ O, O = onlyF (l.take i) (hasI bl) := ⟨_, rfl⟩
    rw [← hO] at hsn hle hd
    have w1 : IntKind.i64.wrap ((i : Int) + 1) = (i : Int) + 1 := wrap_i64 (by omega) (by omega)
    have hfr : ∀ j, h.raw (h.next + j) = none := fun j => hf _ (by omega)
    have hh := fun h => call_of (h := h) (pg := pg) (f := 94) (args := [intsD bl, D.int c.by_]) rfl (by simp [intsD, ints_canonL]) (@hasr_run bl hb c.by_ n (by omega))
    simp only [intsD] at hh v1
    cases he : hasI bl c.by_ with
    | false =>
      rw [he] at hh hsn
      rw [if_neg (by simp)] at hsn
      simp [k81l0, v8, v9, v10, v1, hi, hc, clD, clC, D.cells, D.one, hfr, Nat.add_assoc, w1, hh]
      refine ⟨k - 1, by omega, _, _, i + 1, d, rfl, by omega, by simp [v8, clsD], by simp [v9], by simp, by simp [v1, intsD], by simp [v5], ?_, ?_⟩
      · rw [hsn]
        exact hd.keep (by simp <;> omega) fun q hq => by simp [show q ≠ h.next + 31 by omega]
      · repeat' first | exact hf | apply Heap.Fr.bump | apply Heap.Fr.set
        all_goals (simp <;> omega)
    | true =>
      rw [he] at hh hsn
      rw [if_pos rfl] at hsn
      have hO40 : (O.length + 1) * 40 ≤ 140737488355328 := by omega
      have hcell : (O.flatMap clC) ++ clC c = (O ++ [c]).flatMap clC := by simp
      rcases hd with ⟨hO0, rfl⟩ | ⟨kk, rfl, hg, hkk⟩
      · subst hO0
        simp [k81l0, v8, v9, v10, v1, v5, hi, hc, clD, clC, D.cells, D.one, hfr, Nat.add_assoc, w1, hh, zerosD, apK_some, room, maxLen, List.range_succ]
        refine ⟨k - 1, by omega, _, _, i + 1, .slr (h.next + 93) 0 1 5 none, rfl, by omega, by simp [v8, clsD], by simp [v9], by simp, by simp [v1, intsD], by simp, .inr ⟨h.next + 93, by simp [hsn], by simp [hsn, clC], by simp <;> omega⟩, ?_⟩
        repeat' first | exact hf | apply Heap.Fr.bump | apply Heap.Fr.set
        all_goals (simp <;> omega)
      · have ne1 : ∀ j, (h.next + j = kk) = False := fun j => by simp; omega
        have ne2 : ∀ j, (kk = h.next + j) = False := fun j => by simp; omega
        have happ := fun t hh news => appS_none (t := t) (et := 42) (sz := 5) (bytes := 40) (h := hh) (m := 1) (news := news) (k := kk) (n := O.length) (cs := O.flatMap clC) (cells_len O) (by omega) (by unfold room; omega) (by unfold maxLen; omega)
        simp [k81l0, v8, v9, v10, v1, v5, hi, hc, clD, clC, D.cells, D.one, hfr, Nat.add_assoc, w1, hh, zerosD, apK_some, List.range_succ, hg, ne1, ne2, happ]
        refine ⟨k - 1, by omega, _, _, i + 1, .slr (h.next + 93) 0 (O.length + 1) 5 none, rfl, by omega, by simp [v8, clsD], by simp [v9], by simp, by simp [v1, intsD], by simp, .inr ⟨h.next + 93, by simp [hsn], by simp [hsn, clC], by simp <;> omega⟩, ?_⟩
        repeat' first | exact hf | apply Heap.Fr.bump | apply Heap.Fr.set
        all_goals (simp <;> omega)
  · simp [k81l0, v9, v10, hi]
    exact ⟨_, _, i, d, rfl, by omega, by simp [v8, clsD], by simp [v9], by simp [v10], by simp [v1], by simp [v5], hd.keep (by simp) (by simp), hf.bump _⟩
theorem ronly_run (l : List Clm) (bl : List Int) (hl : l.length * 40 ≤ 140737488355328) (hb : bl.length ≤ 20000000000000) {n : Nat} (hn : l.length + bl.length + 20 ≤ n) : pureCall (rc pg n) 81 [clsD l, intsD bl] = some (.ret (clsD (onlyF l (hasI bl)))) := by
  obtain ⟨m, rfl, e⟩ := body (pg := pg) (f := 81) (args := [clsD l, intsD bl]) (show 0 < n by omega) rfl rfl
  rw [e]
  simp [k81, Env.v_ini, clsD, ev_loop]
  refine Res.endsAfter (lp_rule (bl.length + 10) (OnI l bl) _ (only_round l bl hl hb) l.length m _ (by omega) ⟨_, _, 0, .val (.slice none 0 0), rfl, by omega, by simp [clsD], by simp, by simp, by simp [Env.v_ini], by simp, .inl ⟨by simp [onlyF], rfl⟩, ?_⟩) ?_
  · repeat' first | exact Heap.Fr.empty | apply Heap.Fr.bump | apply Heap.Fr.set
  · rintro x s ⟨rfl, x, h, i, d, rfl, hi, v8, v9, v10, v1, v5, hd, hf⟩
    have hil : i = l.length := by omega
    subst hil
    rw [List.take_length] at hd
    obtain ⟨ks, hz⟩ := GC.frz (hd.keep (h' := h.bump 24) (by simp) (by simp))
    simp only [clsD] at hz
    simp [v5]
    exact ⟨_, hz⟩
end Go.Proofs.YtppfjkebamegnaaDoor
/- The document's own: a list without a number; whether claims have a chronology. -/
namespace Go.Proofs.YtppfjkebamegnaaDoor
open Go Go.Em Go.Em.Net
set_option maxRecDepth 100000
def lessL (L : List Int) (v : Int) : List Int := L.filter fun x => x != v
theorem less_snoc (L : List Int) (v c : Int) : lessL (L ++ [c]) v = if (c != v) = true then lessL L v ++ [c] else lessL L v := by
  unfold lessL
  rw [List.filter_append]
  split
  · rename_i h; rw [List.filter_cons, if_pos h]; rfl
  · rename_i h; rw [List.filter_cons, if_neg h]; simp
theorem less_le (L : List Int) (v : Int) : (lessL L v).length ≤ L.length := List.length_filter_le _ _
def LsI (L : List Int) (v : Int) (k : Nat) (s : St) : Prop := ∃ (x : Env 23) (h : Heap) (i : Nat) (d : D), s = ⟨x.l, h, []⟩ ∧ i + k = L.length ∧ x.v 8 = intsD L ∧ x.v 9 = D.int L.length ∧ x.v 10 = D.int i ∧ x.v 1 = D.int v ∧ x.v 5 = d ∧ GL h d (lessL (L.take i) v) ∧ h.Fr
set_option maxHeartbeats 4000000 in
theorem less_round (L : List Int) (v : Int) (hl : L.length ≤ 1000) : ∀ n, 10 ≤ n → ∀ k s, LsI L v k s → Res (k82l0.ev ⟨pg, 23, none⟩ (rc pg n) s) (Rnd (LsI L v) (fun x s => x = .exit 0 ∧ LsI L v 0 s) k) := by
  rintro n hn k s ⟨x, h, i, d, rfl, hik, v8, v9, v10, v1, v5, hd, hf⟩
  simp only [intsD] at v8
  by_cases hi : i < L.length
  · obtain ⟨c, hc⟩ : ∃ c, L[i] = c := ⟨_, rfl⟩
    have htk : L.take (i + 1) = L.take i ++ [c] := by rw [List.take_add_one, List.getElem?_eq_getElem hi, hc]; rfl
    have hsn := less_snoc (L.take i) v c
    rw [← htk] at hsn
    have hle := less_le (L.take i) v
    rw [List.length_take] at hle
    obtain ⟨O, hO⟩ : ∃ O, O = lessL (L.take i) v := ⟨_, rfl⟩
    rw [← hO] at hsn hle hd
    have w1 : IntKind.i64.wrap ((i : Int) + 1) = (i : Int) + 1 := wrap_i64 (by omega) (by omega)
    have hfr : ∀ j, h.raw (h.next + j) = none := fun j => hf _ (by omega)
    cases he : (c != v) with
    | false =>
      rw [he, if_neg (by simp)] at hsn
      simp [-bne_iff_ne, -bne_eq_false_iff_eq, k82l0, v8, v9, v10, v1, hi, hc, D.cells, w1, he]
      refine ⟨k - 1, by omega, _, _, i + 1, d, rfl, by omega, by simp [v8, intsD], by simp [v9], by simp, by simp [v1], by simp [v5], ?_, ?_⟩
      · rw [hsn]
        exact hd.keep (by simp <;> omega) fun q hq => by simp
      · repeat' first | exact hf | apply Heap.Fr.bump | apply Heap.Fr.set
    | true =>
      rw [he, if_pos rfl] at hsn
      rcases hd with ⟨hO0, rfl⟩ | ⟨kk, rfl, hg, hkk⟩
      · subst hO0
        simp [-bne_iff_ne, k82l0, v8, v9, v10, v1, v5, hi, hc, D.cells, D.one, hfr, Nat.add_assoc, w1, he, zerosD, apK_some, room, maxLen, List.range_succ]
        refine ⟨k - 1, by omega, _, _, i + 1, .slr (h.next + 89) 0 1 1 none, rfl, by omega, by simp [v8, intsD], by simp [v9], by simp, by simp [v1], by simp, .inr ⟨h.next + 89, by simp [hsn], by simp [hsn], by simp <;> omega⟩, ?_⟩
        repeat' first | exact hf | apply Heap.Fr.bump | apply Heap.Fr.set
        all_goals (simp <;> omega)
      · have ne1 : ∀ j, (h.next + j = kk) = False := fun j => by simp; omega
        have ne2 : ∀ j, (kk = h.next + j) = False := fun j => by simp; omega
        have happ := fun t hh news => appS_none (t := t) (et := 3) (sz := 1) (bytes := 8) (h := hh) (m := 1) (news := news) (k := kk) (n := O.length) (cs := O.map D.int) (by simp) (by omega) (by unfold room; omega) (by unfold maxLen; omega)
        simp [-bne_iff_ne, k82l0, v8, v9, v10, v1, v5, hi, hc, D.cells, D.one, hfr, Nat.add_assoc, w1, he, zerosD, apK_some, List.range_succ, hg, ne1, ne2, happ]
        refine ⟨k - 1, by omega, _, _, i + 1, .slr (h.next + 89) 0 (O.length + 1) 1 none, rfl, by omega, by simp [v8, intsD], by simp [v9], by simp, by simp [v1], by simp, .inr ⟨h.next + 89, by simp [hsn], by simp [hsn], by simp <;> omega⟩, ?_⟩
        repeat' first | exact hf | apply Heap.Fr.bump | apply Heap.Fr.set
        all_goals (simp <;> omega)
  · simp [k82l0, v9, v10, hi]
    exact ⟨_, _, i, d, rfl, by omega, by simp [v8, intsD], by simp [v9], by simp [v10], by simp [v1], by simp [v5], hd.keep (by simp) (by simp), hf.bump _⟩
theorem lessn_run (L : List Int) (v : Int) (hl : L.length ≤ 1000) {n : Nat} (hn : L.length + 20 ≤ n) : pureCall (rc pg n) 82 [intsD L, D.int v] = some (.ret (intsD (lessL L v))) := by
  obtain ⟨m, rfl, e⟩ := body (pg := pg) (f := 82) (args := [intsD L, D.int v]) (show 0 < n by omega) rfl rfl
  rw [e]
  simp [k82, Env.v_ini, intsD, ev_loop]
  refine Res.endsAfter (lp_rule 10 (LsI L v) _ (less_round L v hl) L.length m _ (by omega) ⟨_, _, 0, .val (.slice none 0 0), rfl, by omega, by simp [intsD], by simp, by simp, by simp [Env.v_ini], by simp, .inl ⟨by simp [lessL], rfl⟩, ?_⟩) ?_
  · repeat' first | exact Heap.Fr.empty | apply Heap.Fr.bump | apply Heap.Fr.set
  · rintro x s ⟨rfl, x, h, i, d, rfl, hi, v8, v9, v10, v1, v5, hd, hf⟩
    have hil : i = L.length := by omega
    subst hil
    rw [List.take_length] at hd
    obtain ⟨ks, hz⟩ := GL.frz (hd.keep (h' := h.bump 23) (by simp) (by simp))
    simp only [depth_is] at hz
    simp [v5]
    exact ⟨_, hz⟩
set_option maxHeartbeats 4000000 in
theorem poss_run (l : List Clm) (h0 : chkF l = 0) {n : Nat} (hn : 4000 ≤ n) : pureCall (rc pg n) 13 [clsD l] = some (.ret (D.bool (!badF l))) := by
  obtain ⟨m, rfl, e⟩ := body (pg := pg) (f := 13) (args := [clsD l]) (show 0 < n by omega) rfl rfl
  rw [e]
  by_cases hl0 : l = []
  · subst hl0
    have c := fun h => call_of (h := h) (pg := pg) (f := 53) rfl (cls_canon []) (rclo_nil (f := m) (by omega))
    simp only [clsD, List.map_nil] at c
    have hb : badF [] = false := rfl
    simp [k13, Env.v_ini, clsD, c, hb, D.cells, D.one]
  · obtain ⟨B, r, _⟩ := rclo_run l h0 hl0 (f := m) (by omega)
    have c := fun h => call_of (h := h) (pg := pg) (f := 53) rfl (cls_canon l) r
    simp only [clsD, nD, intsD, rowsD] at c
    simp [k13, Env.v_ini, clsD, c, D.cells, D.one]
end Go.Proofs.YtppfjkebamegnaaDoor
/- The document's least conflict. -/
namespace Go.Proofs.YtppfjkebamegnaaDoor
open Go Go.Em Go.Em.Net
set_option maxRecDepth 100000
def leftD (l : List Clm) (S : List Int) : Nat → List Int
  | 0 => S
  | i + 1 => if badF (onlyF l (hasI (lessL (leftD l S i) (S.getD (S.length - 1 - i) 0)))) = true then lessL (leftD l S i) (S.getD (S.length - 1 - i) 0) else leftD l S i
theorem leftD_le (l : List Clm) (S : List Int) : ∀ i, (leftD l S i).length ≤ S.length
  | 0 => Nat.le_refl _
  | i + 1 => by
    have := leftD_le l S i
    have := less_le (leftD l S i) (S.getD (S.length - 1 - i) 0)
    rw [leftD]; split <;> omega
theorem only_chk {l : List Clm} (h0 : chkF l = 0) (P : Int → Bool) : chkF (onlyF l P) = 0 := chk_sub (only_le l P) (fun _ hc => (List.mem_filter.1 hc).1) h0
def RcI (l : List Clm) (S : List Int) (k : Nat) (s : St) : Prop := ∃ (x : Env 43) (h : Heap) (i : Nat), s = ⟨x.l, h, []⟩ ∧ i + k = S.length ∧ x.v 0 = clsD l ∧ x.v 5 = intsD (leftD l S i) ∧ x.v 6 = intsD S ∧ x.v 7 = D.int ((S.length : Int) - 1 - i)
set_option maxHeartbeats 8000000 in
theorem rc_round (l : List Clm) (h0 : chkF l = 0) (S : List Int) (hS : S.length ≤ 400) : ∀ n, 6000 ≤ n → ∀ k s, RcI l S k s → Res (k38l0.ev ⟨pg, 43, none⟩ (rc pg n) s) (Rnd (RcI l S) (fun x s => x = .exit 0 ∧ RcI l S 0 s) k) := by
  rintro n hn k s ⟨x, h, i, rfl, hik, v0, v5, v6, v7⟩
  obtain ⟨hl1, _, _⟩ := chk_ok h0
  by_cases hi : i < S.length
  · obtain ⟨j, hj⟩ : ∃ j, j = S.length - 1 - i := ⟨_, rfl⟩
    have hjl : j < S.length := by omega
    obtain ⟨v, hv⟩ : ∃ v, S[j] = v := ⟨_, rfl⟩
    have hgd : S.getD j 0 = v := by rw [List.getD_eq_getElem?_getD, List.getElem?_eq_getElem hjl, hv]; rfl
    have hst : leftD l S (i + 1) = if badF (onlyF l (hasI (lessL (leftD l S i) v))) = true then lessL (leftD l S i) v else leftD l S i := by rw [leftD, ← hj, hgd]
    have hle := leftD_le l S i
    obtain ⟨L, hL⟩ : ∃ L, L = leftD l S i := ⟨_, rfl⟩
    rw [← hL] at v5 hst hle
    have w3 : ((S.length : Int) - 1 - i) = (j : Int) := by omega
    rw [w3] at v7
    have w1 : IntKind.i64.wrap ((j : Int) - 1) = (j : Int) - 1 := wrap_i64 (by omega) (by omega)
    have c1 := fun h => call_of (h := h) (pg := pg) (f := 82) rfl (by simp [intsD, ints_canonL]) (@lessn_run L v (by omega) n (by omega))
    have hll := less_le L v
    obtain ⟨L', hL'⟩ : ∃ L', L' = lessL L v := ⟨_, rfl⟩
    rw [← hL'] at c1 hst hll
    have c2 := fun h => call_of (h := h) (pg := pg) (f := 81) rfl (two_canon l L') (@ronly_run l L' (by omega) (by omega) n (by omega))
    have c3 := fun h => call_of (h := h) (pg := pg) (f := 13) rfl (cls_canon (onlyF l (hasI L'))) (@poss_run (onlyF l (hasI L')) (only_chk h0 _) n (by omega))
    obtain ⟨O, hO⟩ : ∃ O, O = clsD (onlyF l (hasI L')) := ⟨_, rfl⟩
    rw [← hO] at c2 c3
    obtain ⟨C, hC⟩ : ∃ C, C = clsD l := ⟨_, rfl⟩
    rw [← hC] at v0 c2
    obtain ⟨DL, hDL⟩ : ∃ D, D = intsD L := ⟨_, rfl⟩
    rw [← hDL] at v5 c1
    obtain ⟨DL', hDL'⟩ : ∃ D, D = intsD L' := ⟨_, rfl⟩
    rw [← hDL'] at c1 c2
    simp only [intsD] at v6
    have w4 : (S.length : Int) - 1 - ((i + 1 : Nat) : Int) = (j : Int) - 1 := by omega
    cases hb : badF (onlyF l (hasI L')) with
    | true =>
      rw [hb, if_pos rfl] at hst
      rw [hb] at c3
      simp [k38l0, v0, v5, v6, v7, hjl, hv, D.cells, c1, c2, c3, w1]
      exact ⟨k - 1, by omega, _, _, i + 1, rfl, by omega, by simp [v0, hC], by rw [hst]; simp [hDL'], by simp [v6, intsD], by rw [w4]; simp⟩
    | false =>
      rw [hb, if_neg (by simp)] at hst
      rw [hb] at c3
      simp [k38l0, v0, v5, v6, v7, hjl, hv, D.cells, c1, c2, c3, w1]
      exact ⟨k - 1, by omega, _, _, i + 1, rfl, by omega, by simp [v0, hC], by rw [hst]; simp [v5, hDL], by simp [v6, intsD], by rw [w4]; simp⟩
  · have w3 : ((S.length : Int) - 1 - i) = -1 := by omega
    rw [w3] at v7
    simp [k38l0, v7]
    exact ⟨_, _, i, rfl, by omega, by simp [v0], by simp [v5], by simp [v6], by rw [w3]; simp [v7]⟩
set_option maxHeartbeats 8000000 in
theorem rconf_run (l : List Clm) {n : Nat} (hn : 7000 ≤ n) : pureCall (rc pg n) 38 [clsD l] = some (.ret (.tup [intsD (if conE l = 0 then leftD l (srcF l) (srcF l).length else []), D.int (conE l)])) := by
  obtain ⟨m, rfl, e⟩ := body (pg := pg) (f := 38) (args := [clsD l]) (show 0 < n by omega) rfl rfl
  rw [e]
  have ck := fun h => call_of (h := h) (pg := pg) (f := 26) rfl (cls_canon l) (@rchk_run l m (by omega))
  obtain ⟨C, hC⟩ : ∃ C, C = clsD l := ⟨_, rfl⟩
  by_cases h0 : chkF l = 0
  · obtain ⟨hl1, _, _⟩ := chk_ok h0
    rw [h0] at ck
    have cp := fun h => call_of (h := h) (pg := pg) (f := 13) rfl (cls_canon l) (@poss_run l h0 m (by omega))
    have cs := fun h => call_of (h := h) (pg := pg) (f := 73) rfl (cls_canon l) (@rsrc_run l (by omega) m (by omega))
    have hsl := src_len l
    have hce : conE l = if badF l = false then 4 else 0 := by unfold conE; rw [if_neg (by omega)]
    rw [hce]
    rw [← hC] at ck cp cs ⊢
    obtain ⟨S, hS⟩ : ∃ S, S = srcF l := ⟨_, rfl⟩
    rw [← hS] at cs hsl ⊢
    cases hb : badF l with
    | false =>
      rw [hb] at cp
      simp [k38, Env.v_ini, ck, cp, intsD]
    | true =>
      rw [hb] at cp
      have w1 : IntKind.i64.wrap ((S.length : Int) - 1) = (S.length : Int) - 1 := wrap_i64 (by omega) (by omega)
      simp only [intsD] at cs
      simp [k38, Env.v_ini, ck, cp, cs, w1, intsD, ev_loop]
      refine Res.endsAfter (lp_rule 6000 (RcI l S) _ (rc_round l h0 S (by omega)) S.length m _ (by omega) ⟨_, _, 0, rfl, by omega, by simp [Env.v_ini, hC], by simp [intsD, leftD], by simp [intsD], by simp⟩) ?_
      rintro x s ⟨rfl, x, h, i, rfl, hi, v0, v5, v6, v7⟩
      obtain rfl : i = S.length := by omega
      simp only [intsD] at v5
      simp [v5]
  · have h0' : (chkF l != 0) = true := by simpa using h0
    have hce : conE l = chkF l := by unfold conE; rw [if_pos h0]
    rw [hce, if_neg h0]
    rw [← hC] at ck ⊢
    simp [-bne_iff_ne, k38, Env.v_ini, ck, h0', intsD]
end Go.Proofs.YtppfjkebamegnaaDoor
/- What the program leaves is what the document leaves; it is a least conflict. -/
namespace Go.Proofs.YtppfjkebamegnaaDoor
open Go Go.Em Go.Em.Net
set_option maxRecDepth 100000
theorem foldB_rest (l : List Clm) {S : List Int} (hS : S.Nodup) : ∀ i, i ≤ S.length → ∀ j, (hj : j < S.length) → j < S.length - i → foldB l S i S[j] = true
  | 0, _, _, _, _ => rfl
  | i + 1, hi, j, hj, hlt => by
    have ih := foldB_rest l hS i (by omega) j hj (by omega)
    have hq : S.length - 1 - i < S.length := by omega
    have hne : S[j] ≠ S.getD (S.length - 1 - i) 0 := by
      rw [List.getD_eq_getElem?_getD, List.getElem?_eq_getElem hq]
      intro e
      have := nodup_at hS hj hq e
      omega
    rw [foldB]
    unfold stB
    split
    · unfold updB; rw [if_neg hne]; exact ih
    · unfold updB; rw [if_neg hne]; exact ih
theorem only_congr {l : List Clm} {P Q : Int → Bool} (h : ∀ c ∈ l, P c.by_ = Q c.by_) : onlyF l P = onlyF l Q := List.filter_congr h
theorem has_dec (L : List Int) (v : Int) : hasI L v = decide (v ∈ L) := by
  cases h : hasI L v with
  | true => exact (decide_eq_true (hasI_mem.1 h)).symm
  | false => exact (decide_eq_false fun hm => by rw [hasI_mem.2 hm] at h; cases h).symm
theorem left_same (l : List Clm) {S : List Int} (hSs : S = srcF l) (hS : S.Nodup) : ∀ i, i ≤ S.length → leftD l S i = S.filter (inB S (foldB l S i))
  | 0, _ => by
    rw [leftD]
    exact (List.filter_eq_self.2 fun v hv => by unfold inB foldB; simp [hv]).symm
  | i + 1, hi => by
    have ih := left_same l hSs hS i (by omega)
    have hq : S.length - 1 - i < S.length := by omega
    obtain ⟨v, hv⟩ : ∃ v, v = S.getD (S.length - 1 - i) 0 := ⟨_, rfl⟩
    have hvs : v = S[S.length - 1 - i] := by rw [hv, List.getD_eq_getElem?_getD, List.getElem?_eq_getElem hq]; rfl
    have hB := foldB_rest l hS i (by omega) (S.length - 1 - i) hq (by omega)
    rw [← hvs] at hB
    rw [leftD, foldB, ← hv, ih]
    obtain ⟨B, hBd⟩ : ∃ B, B = foldB l S i := ⟨_, rfl⟩
    rw [← hBd] at hB ⊢
    have hless : lessL (S.filter (inB S B)) v = S.filter (inB S (updB B v false)) := by
      unfold lessL
      rw [List.filter_filter]
      refine List.filter_congr fun w hw => ?_
      unfold inB updB
      by_cases e : w = v
      · simp [e]
      · have : (w != v) = true := by simpa using e
        simp [hw, e]
    have hon : onlyF l (hasI (lessL (S.filter (inB S B)) v)) = onlyF l (inB S (updB B v false)) := by
      rw [hless]
      refine only_congr fun c hc => ?_
      have hcs : c.by_ ∈ S := by rw [hSs]; exact (src_mem l c.by_).2 ⟨c, hc, rfl⟩
      rw [has_dec]
      cases hq : inB S (updB B v false) c.by_ with
      | true => exact decide_eq_true (List.mem_filter.2 ⟨hcs, hq⟩)
      | false => exact decide_eq_false fun hm => by rw [(List.mem_filter.1 hm).2] at hq; cases hq
    rw [hon]
    unfold stB
    cases hb : badF (onlyF l (inB S (updB B v false))) with
    | true =>
      rw [if_pos rfl, if_pos rfl, hless]
    | false =>
      rw [if_neg (by simp), if_neg (by simp)]
      refine List.filter_congr fun w hw => ?_
      unfold inB updB
      by_cases e : w = v
      · simp [e, hB]
      · simp [e]
theorem leftF_D (l : List Clm) : leftF l = leftD l (srcF l) (srcF l).length := (left_same l rfl (rise_nodup (src_rise l)) _ (Nat.le_refl _)).symm
/-! What is left -/
theorem leftD_step (l : List Clm) (S : List Int) (i : Nat) : ∀ x, x ∈ leftD l S (i + 1) → x ∈ leftD l S i := fun x hx => by
  rw [leftD] at hx
  split at hx
  · exact (List.mem_filter.1 hx).1
  · exact hx
theorem leftD_down (l : List Clm) (S : List Int) (i : Nat) : ∀ k x, x ∈ leftD l S (i + k) → x ∈ leftD l S i
  | 0, _, h => h
  | k + 1, x, h => leftD_down l S i k x (leftD_step l S (i + k) x h)
theorem leftD_bad (l : List Clm) (hb : badF l = true) : ∀ i, badF (onlyF l (hasI (leftD l (srcF l) i))) = true
  | 0 => by
    have : onlyF l (hasI (srcF l)) = l := List.filter_eq_self.2 fun c hc => hasI_mem.2 ((src_mem l c.by_).2 ⟨c, hc, rfl⟩)
    rw [leftD, this]; exact hb
  | i + 1 => by
    rw [leftD]
    split
    · rename_i h; exact h
    · exact leftD_bad l hb i
theorem leftD_least (l : List Clm) (h0 : chkF l = 0) {x : Int} (hx : x ∈ leftD l (srcF l) (srcF l).length) : badF (onlyF l (hasI (lessL (leftD l (srcF l) (srcF l).length) x))) = false := by
  obtain ⟨S, hS⟩ : ∃ S, S = srcF l := ⟨_, rfl⟩
  rw [← hS] at hx ⊢
  have hxS : x ∈ S := leftD_down l S 0 S.length x (by rw [Nat.zero_add]; exact hx)
  obtain ⟨j, hj, e⟩ := List.getElem_of_mem hxS
  obtain ⟨i, hi⟩ : ∃ i, i = S.length - 1 - j := ⟨_, rfl⟩
  have hgd : S.getD (S.length - 1 - i) 0 = x := by
    rw [show S.length - 1 - i = j by omega, List.getD_eq_getElem?_getD, List.getElem?_eq_getElem hj, e]; rfl
  have hin : x ∈ leftD l S (i + 1) := leftD_down l S (i + 1) (S.length - (i + 1)) x (by rw [show i + 1 + (S.length - (i + 1)) = S.length by omega]; exact hx)
  have hnb : badF (onlyF l (hasI (lessL (leftD l S i) x))) = false := by
    rw [leftD, hgd] at hin
    split at hin
    · exact absurd (List.mem_filter.1 hin).2 (by simp)
    · rename_i h
      cases hq : badF (onlyF l (hasI (lessL (leftD l S i) x))) with
      | false => rfl
      | true => exact absurd hq h
  refine bad_sub (only_chk h0 _) (only_chk h0 _) (fun c hc => ?_) hnb
  obtain ⟨c1, c2⟩ := List.mem_filter.1 hc
  refine List.mem_filter.2 ⟨c1, hasI_mem.2 ?_⟩
  obtain ⟨d1, d2⟩ := List.mem_filter.1 (hasI_mem.1 c2)
  exact List.mem_filter.2 ⟨leftD_down l S i (S.length - i) _ (by rw [show i + (S.length - i) = S.length by omega]; exact d1), d2⟩
theorem left_rise (l : List Clm) : Rise (leftF l) := List.Pairwise.sublist List.filter_sublist (src_rise l)
theorem left_sub (l : List Clm) {x : Int} (h : x ∈ leftF l) : x ∈ srcF l := (List.mem_filter.1 h).1
theorem left_some (l : List Clm) (hb : badF l = true) : leftF l ≠ [] := fun e => by
  have h := leftD_bad l hb (srcF l).length
  rw [← leftF_D, e] at h
  have : onlyF l (hasI []) = [] := List.filter_eq_nil_iff.2 fun c _ => by simp [hasI]
  rw [this] at h
  exact absurd h (by decide)
end Go.Proofs.YtppfjkebamegnaaDoor
