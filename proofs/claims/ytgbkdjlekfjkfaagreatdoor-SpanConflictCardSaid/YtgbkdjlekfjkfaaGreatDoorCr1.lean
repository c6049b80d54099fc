/- The document's own: the claims of some sources, a list without a number, whether claims have a chronology. -/
import Derived.Test.YtgbkdjlekfjkfaaGreatDoorCf4
import Derived.Test.YtgbkdjlekfjkfaaGreatDoorSh1
namespace Go.Proofs.YtgbkdjlekfjkfaaGreatDoor
open Go Go.Em Go.Em.Net
set_option maxRecDepth 100000
theorem hasr_run (l : List Int) (hl : l.length ≤ 20000000000000) (v : Int) {n : Nat} (hn : l.length + 6 ≤ n) : pureCall (rc pg n) 21 [intsD l, D.int v] = some (.ret (D.bool (hasI l v))) := by
  obtain ⟨m, rfl, e⟩ := body (pg := pg) (f := 21) (args := [intsD l, D.int v]) (show 0 < n by omega) rfl rfl
  rw [e]
  have ci := fun h => call_of (h := h) (pg := pg) (f := 77) rfl (by simp [intsD, ints_canonL]) (@index_run l hl v m (by omega))
  have ha := ixP_any (· == v) l 0
  simp only [intsD] at ci
  obtain ⟨z, hz⟩ : ∃ z, z = ixP (· == v) 0 l := ⟨_, rfl⟩
  rw [← hz] at ci ha
  have hb : hasI l v = decide (z ≥ 0) := by unfold hasI; exact ha.symm
  rw [hb]
  simp [k21, Env.v_ini, intsD, ci]
theorem only_snoc (l : List Clm) (bl : List Int) (c : Clm) : onlyF (l ++ [c]) (hasI bl) = if hasI bl c.by_ = true then onlyF l (hasI bl) ++ [c] else onlyF l (hasI bl) := by
  unfold onlyF
  rw [List.filter_append]
  split
  · rename_i h; simp [h]
  · rename_i h; simp [h]
theorem only_le (l : List Clm) (P : Int → Bool) : (onlyF l P).length ≤ l.length := List.length_filter_le _ _
def OnI (l : List Clm) (bl : List Int) (k : Nat) (s : St) : Prop := ∃ (x : Env 24) (h : Heap) (i : Nat) (d : D), s = ⟨x.l, h, []⟩ ∧ i + k = l.length ∧ x.v 8 = clsD l ∧ x.v 9 = D.int l.length ∧ x.v 10 = D.int i ∧ x.v 1 = intsD bl ∧ x.v 5 = d ∧ GC h d (onlyF (l.take i) (hasI bl)) ∧ h.Fr
set_option maxHeartbeats 4000000 in
theorem only_round (l : List Clm) (bl : List Int) (hl : l.length * 40 ≤ 140737488355328) (hb : bl.length ≤ 20000000000000) : ∀ n, bl.length + 10 ≤ n → ∀ k s, OnI l bl k s → Res (k74l0.ev ⟨pg, 24, none⟩ (rc pg n) s) (Rnd (OnI l bl) (fun x s => x = .exit 0 ∧ OnI l bl 0 s) k) := by
  rintro n hn k s ⟨x, h, i, d, rfl, hik, v8, v9, v10, v1, v5, hd, hf⟩
  simp only [clsD] at v8
  by_cases hi : i < l.length
  · obtain ⟨c, hc⟩ : ∃ c, l[i] = c := ⟨_, rfl⟩
    have htk : l.take (i + 1) = l.take i ++ [c] := by rw [List.take_add_one, List.getElem?_eq_getElem hi, hc]; rfl
    have hsn := only_snoc (l.take i) bl c
    rw [← htk] at hsn
    have hle := only_le (l.take i) (hasI bl)
    rw [List.length_take] at hle
    obtain ⟨O, hO⟩ : ∃ O, O = onlyF (l.take i) (hasI bl) := ⟨_, rfl⟩
    rw [← hO] at hsn hle hd
    have w1 : IntKind.i64.wrap ((i : Int) + 1) = (i : Int) + 1 := wrap_i64 (by omega) (by omega)
    have hfr : ∀ j, h.raw (h.next + j) = none := fun j => hf _ (by omega)
    have hh := fun h => call_of (h := h) (pg := pg) (f := 21) (args := [intsD bl, D.int c.by_]) rfl (by simp [intsD, ints_canonL]) (@hasr_run bl hb c.by_ n (by omega))
    simp only [intsD] at hh v1
    cases he : hasI bl c.by_ with
    | false =>
      rw [he] at hh hsn
      rw [if_neg (by simp)] at hsn
      simp [k74l0, v8, v9, v10, v1, hi, hc, clD, clC, D.cells, D.one, hfr, Nat.add_assoc, w1, hh]
      refine ⟨k - 1, by omega, _, _, i + 1, d, rfl, by omega, by simp [v8, clsD], by simp [v9], by simp, by simp [v1, intsD], by simp [v5], ?_, ?_⟩
      · rw [hsn]
        exact hd.keep (by simp <;> omega) fun q hq => by simp [show q ≠ h.next + 31 by omega]
      · repeat' first | exact hf | apply Heap.Fr.bump | apply Heap.Fr.set
        all_goals (simp <;> omega)
    | true =>
      rw [he] at hh hsn
      rw [if_pos rfl] at hsn
      have hO40 : (O.length + 1) * 40 ≤ 140737488355328 := by omega
      have hcell : (O.flatMap clC) ++ clC c = (O ++ [c]).flatMap clC := by simp
      rcases hd with ⟨hO0, rfl⟩ | ⟨kk, rfl, hg, hkk⟩
      · subst hO0
        simp [k74l0, v8, v9, v10, v1, v5, hi, hc, clD, clC, D.cells, D.one, hfr, Nat.add_assoc, w1, hh, zerosD, apK_some, room, maxLen, List.range_succ]
        refine ⟨k - 1, by omega, _, _, i + 1, .slr (h.next + 93) 0 1 5 none, rfl, by omega, by simp [v8, clsD], by simp [v9], by simp, by simp [v1, intsD], by simp, .inr ⟨h.next + 93, by simp [hsn], by simp [hsn, clC], by simp <;> omega⟩, ?_⟩
        repeat' first | exact hf | apply Heap.Fr.bump | apply Heap.Fr.set
        all_goals (simp <;> omega)
      · have ne1 : ∀ j, (h.next + j = kk) = False := fun j => by simp; omega
        have ne2 : ∀ j, (kk = h.next + j) = False := fun j => by simp; omega
        have happ := fun t hh news => appS_none (t := t) (et := 70) (sz := 5) (bytes := 40) (h := hh) (m := 1) (news := news) (k := kk) (n := O.length) (cs := O.flatMap clC) (cells_len O) (by omega) (by unfold room; omega) (by unfold maxLen; omega)
        simp [k74l0, v8, v9, v10, v1, v5, hi, hc, clD, clC, D.cells, D.one, hfr, Nat.add_assoc, w1, hh, zerosD, apK_some, List.range_succ, hg, ne1, ne2, happ]
        refine ⟨k - 1, by omega, _, _, i + 1, .slr (h.next + 93) 0 (O.length + 1) 5 none, rfl, by omega, by simp [v8, clsD], by simp [v9], by simp, by simp [v1, intsD], by simp, .inr ⟨h.next + 93, by simp [hsn], by simp [hsn, clC], by simp <;> omega⟩, ?_⟩
        repeat' first | exact hf | apply Heap.Fr.bump | apply Heap.Fr.set
        all_goals (simp <;> omega)
  · simp [k74l0, v9, v10, hi]
    exact ⟨_, _, i, d, rfl, by omega, by simp [v8, clsD], by simp [v9], by simp [v10], by simp [v1], by simp [v5], hd.keep (by simp) (by simp), hf.bump _⟩
theorem ronly_run (l : List Clm) (bl : List Int) (hl : l.length * 40 ≤ 140737488355328) (hb : bl.length ≤ 20000000000000) {n : Nat} (hn : l.length + bl.length + 20 ≤ n) : pureCall (rc pg n) 74 [clsD l, intsD bl] = some (.ret (clsD (onlyF l (hasI bl)))) := by
  obtain ⟨m, rfl, e⟩ := body (pg := pg) (f := 74) (args := [clsD l, intsD bl]) (show 0 < n by omega) rfl rfl
  rw [e]
  simp [k74, Env.v_ini, clsD, ev_loop]
  refine Res.endsAfter (lp_rule (bl.length + 10) (OnI l bl) _ (only_round l bl hl hb) l.length m _ (by omega) ⟨_, _, 0, .val (.slice none 0 0), rfl, by omega, by simp [clsD], by simp, by simp, by simp [Env.v_ini], by simp, .inl ⟨by simp [onlyF], rfl⟩, ?_⟩) ?_
  · repeat' first | exact Heap.Fr.empty | apply Heap.Fr.bump | apply Heap.Fr.set
  · rintro x s ⟨rfl, x, h, i, d, rfl, hi, v8, v9, v10, v1, v5, hd, hf⟩
    have hil : i = l.length := by omega
    subst hil
    rw [List.take_length] at hd
    obtain ⟨ks, hz⟩ := GC.frz (hd.keep (h' := h.bump 24) (by simp) (by simp))
    simp only [clsD] at hz
    simp [v5]
    exact ⟨_, hz⟩
end Go.Proofs.YtgbkdjlekfjkfaaGreatDoor
/- The document's own: a list without a number; whether claims have a chronology. -/
namespace Go.Proofs.YtgbkdjlekfjkfaaGreatDoor
open Go Go.Em Go.Em.Net
set_option maxRecDepth 100000
def lessL (L : List Int) (v : Int) : List Int := L.filter fun x => x != v
theorem less_snoc (L : List Int) (v c : Int) : lessL (L ++ [c]) v = if (c != v) = true then lessL L v ++ [c] else lessL L v := by
  unfold lessL
  rw [List.filter_append]
  split
  · rename_i h; rw [List.filter_cons, if_pos h]; rfl
  · rename_i h; rw [List.filter_cons, if_neg h]; simp
theorem less_le (L : List Int) (v : Int) : (lessL L v).length ≤ L.length := List.length_filter_le _ _
def LsI (L : List Int) (v : Int) (k : Nat) (s : St) : Prop := ∃ (x : Env 23) (h : Heap) (i : Nat) (d : D), s = ⟨x.l, h, []⟩ ∧ i + k = L.length ∧ x.v 8 = intsD L ∧ x.v 9 = D.int L.length ∧ x.v 10 = D.int i ∧ x.v 1 = D.int v ∧ x.v 5 = d ∧ GL h d (lessL (L.take i) v) ∧ h.Fr
set_option maxHeartbeats 4000000 in
theorem less_round (L : List Int) (v : Int) (hl : L.length * 8 ≤ 140737488355328) : ∀ n, 10 ≤ n → ∀ k s, LsI L v k s → Res (k76l0.ev ⟨pg, 23, none⟩ (rc pg n) s) (Rnd (LsI L v) (fun x s => x = .exit 0 ∧ LsI L v 0 s) k) := by
  rintro n hn k s ⟨x, h, i, d, rfl, hik, v8, v9, v10, v1, v5, hd, hf⟩
  simp only [intsD] at v8
  by_cases hi : i < L.length
  · obtain ⟨c, hc⟩ : ∃ c, L[i] = c := ⟨_, rfl⟩
    have htk : L.take (i + 1) = L.take i ++ [c] := by rw [List.take_add_one, List.getElem?_eq_getElem hi, hc]; rfl
    have hsn := less_snoc (L.take i) v c
    rw [← htk] at hsn
    have hle := less_le (L.take i) v
    rw [List.length_take] at hle
    obtain ⟨O, hO⟩ : ∃ O, O = lessL (L.take i) v := ⟨_, rfl⟩
    rw [← hO] at hsn hle hd
    have w1 : IntKind.i64.wrap ((i : Int) + 1) = (i : Int) + 1 := wrap_i64 (by omega) (by omega)
    have hfr : ∀ j, h.raw (h.next + j) = none := fun j => hf _ (by omega)
    cases he : (c != v) with
    | false =>
      rw [he, if_neg (by simp)] at hsn
      simp [-bne_iff_ne, -bne_eq_false_iff_eq, k76l0, v8, v9, v10, v1, hi, hc, D.cells, w1, he]
      refine ⟨k - 1, by omega, _, _, i + 1, d, rfl, by omega, by simp [v8, intsD], by simp [v9], by simp, by simp [v1], by simp [v5], ?_, ?_⟩
      · rw [hsn]
        exact hd.keep (by simp <;> omega) fun q hq => by simp
      · repeat' first | exact hf | apply Heap.Fr.bump | apply Heap.Fr.set
    | true =>
      rw [he, if_pos rfl] at hsn
      rcases hd with ⟨hO0, rfl⟩ | ⟨kk, rfl, hg, hkk⟩
      · subst hO0
        simp [-bne_iff_ne, k76l0, v8, v9, v10, v1, v5, hi, hc, D.cells, D.one, hfr, Nat.add_assoc, w1, he, zerosD, apK_some, room, maxLen, List.range_succ]
        refine ⟨k - 1, by omega, _, _, i + 1, .slr (h.next + 89) 0 1 1 none, rfl, by omega, by simp [v8, intsD], by simp [v9], by simp, by simp [v1], by simp, .inr ⟨h.next + 89, by simp [hsn], by simp [hsn], by simp <;> omega⟩, ?_⟩
        repeat' first | exact hf | apply Heap.Fr.bump | apply Heap.Fr.set
        all_goals (simp <;> omega)
      · have ne1 : ∀ j, (h.next + j = kk) = False := fun j => by simp; omega
        have ne2 : ∀ j, (kk = h.next + j) = False := fun j => by simp; omega
        have happ := fun t hh news => appS_none (t := t) (et := 3) (sz := 1) (bytes := 8) (h := hh) (m := 1) (news := news) (k := kk) (n := O.length) (cs := O.map D.int) (by simp) (by omega) (by unfold room; omega) (by unfold maxLen; omega)
        simp [-bne_iff_ne, k76l0, v8, v9, v10, v1, v5, hi, hc, D.cells, D.one, hfr, Nat.add_assoc, w1, he, zerosD, apK_some, List.range_succ, hg, ne1, ne2, happ]
        refine ⟨k - 1, by omega, _, _, i + 1, .slr (h.next + 89) 0 (O.length + 1) 1 none, rfl, by omega, by simp [v8, intsD], by simp [v9], by simp, by simp [v1], by simp, .inr ⟨h.next + 89, by simp [hsn], by simp [hsn], by simp <;> omega⟩, ?_⟩
        repeat' first | exact hf | apply Heap.Fr.bump | apply Heap.Fr.set
        all_goals (simp <;> omega)
  · simp [k76l0, v9, v10, hi]
    exact ⟨_, _, i, d, rfl, by omega, by simp [v8, intsD], by simp [v9], by simp [v10], by simp [v1], by simp [v5], hd.keep (by simp) (by simp), hf.bump _⟩
theorem lessn_run (L : List Int) (v : Int) (hl : L.length * 8 ≤ 140737488355328) {n : Nat} (hn : L.length + 20 ≤ n) : pureCall (rc pg n) 76 [intsD L, D.int v] = some (.ret (intsD (lessL L v))) := by
  obtain ⟨m, rfl, e⟩ := body (pg := pg) (f := 76) (args := [intsD L, D.int v]) (show 0 < n by omega) rfl rfl
  rw [e]
  simp [k76, Env.v_ini, intsD, ev_loop]
  refine Res.endsAfter (lp_rule 10 (LsI L v) _ (less_round L v hl) L.length m _ (by omega) ⟨_, _, 0, .val (.slice none 0 0), rfl, by omega, by simp [intsD], by simp, by simp, by simp [Env.v_ini], by simp, .inl ⟨by simp [lessL], rfl⟩, ?_⟩) ?_
  · repeat' first | exact Heap.Fr.empty | apply Heap.Fr.bump | apply Heap.Fr.set
  · rintro x s ⟨rfl, x, h, i, d, rfl, hi, v8, v9, v10, v1, v5, hd, hf⟩
    have hil : i = L.length := by omega
    subst hil
    rw [List.take_length] at hd
    obtain ⟨ks, hz⟩ := GL.frz (hd.keep (h' := h.bump 23) (by simp) (by simp))
    simp only [depth_is] at hz
    simp [v5]
    exact ⟨_, hz⟩
set_option maxHeartbeats 4000000 in
theorem poss_run (l : List Clm) (h0 : chkF l = 0) {n : Nat} (hn : 4000 ≤ n) : pureCall (rc pg n) 13 [clsD l] = some (.ret (D.bool (!badF l))) := by
  obtain ⟨m, rfl, e⟩ := body (pg := pg) (f := 13) (args := [clsD l]) (show 0 < n by omega) rfl rfl
  rw [e]
  by_cases hl0 : l = []
  · subst hl0
    have c := fun h => call_of (h := h) (pg := pg) (f := 56) rfl (cls_canon []) (rclo_nil (f := m) (by omega))
    simp only [clsD, List.map_nil] at c
    have hb : badF [] = false := rfl
    simp [k13, Env.v_ini, clsD, c, hb, D.cells, D.one]
  · obtain ⟨B, r, _⟩ := rclo_run l h0 hl0 (f := m) (by omega)
    have c := fun h => call_of (h := h) (pg := pg) (f := 56) rfl (cls_canon l) r
    simp only [clsD, nD, intsD, rowsD] at c
    simp [k13, Env.v_ini, clsD, c, D.cells, D.one]
end Go.Proofs.YtgbkdjlekfjkfaaGreatDoor
/- The document's least conflict. -/
namespace Go.Proofs.YtgbkdjlekfjkfaaGreatDoor
open Go Go.Em Go.Em.Net
set_option maxRecDepth 100000
theorem only_chk {l : List Clm} (h0 : chkF l = 0) (P : Int → Bool) : chkF (onlyF l P) = 0 := chk_sub (only_le l P) (fun _ hc => (List.mem_filter.1 hc).1) h0
end Go.Proofs.YtgbkdjlekfjkfaaGreatDoor
/- What the program leaves is what the document leaves; it is a least conflict. -/
namespace Go.Proofs.YtgbkdjlekfjkfaaGreatDoor
open Go Go.Em Go.Em.Net
set_option maxRecDepth 100000
theorem only_congr {l : List Clm} {P Q : Int → Bool} (h : ∀ c ∈ l, P c.by_ = Q c.by_) : onlyF l P = onlyF l Q := List.filter_congr h
theorem has_dec (L : List Int) (v : Int) : hasI L v = decide (v ∈ L) := by
  cases h : hasI L v with
  | true => exact (decide_eq_true (hasI_mem.1 h)).symm
  | false => exact (decide_eq_false fun hm => by rw [hasI_mem.2 hm] at h; cases h).symm
end Go.Proofs.YtgbkdjlekfjkfaaGreatDoor
