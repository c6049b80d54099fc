/- The spans that two sheets have together, by the document. -/
import Derived.Test.YtomiigdpggeacaaDoorBoth
namespace Go.Proofs.YtomiigdpggeacaaDoor
open Go Go.Em
set_option maxRecDepth 100000
theorem at_in {i r c : Int} {l : List Rw} (h0 : chkF i r c l = 0) (v : Int) : (notIn (shMarks i r c l) v = true ∧ atF c v l = -1) ∨ (notIn (shMarks i r c l) v = false ∧ ∃ p : Nat, atF c v l = (p : Int)) := by
  obtain ⟨hc, ho⟩ := chk_core h0
  have hM : shMarks i r c l = marksF c l := by unfold shMarks; rw [if_pos h0]
  rw [hM]
  rcases at_ge c v l with h | ⟨p, hp, hpl⟩
  · refine .inl ⟨?_, h⟩
    cases hn : notIn (marksF c l) v with
    | true => rfl
    | false =>
      have hin : v ∈ marksF c l := by simpa [notIn] using hn
      obtain ⟨p, hp, hk, hm⟩ := marks_at c l v hin
      have := row_at hc (chk_ok h0) ho hp hk
      rw [hm, h] at this; omega
  · refine .inr ⟨?_, p, hp⟩
    obtain ⟨hp', hk, hm⟩ := at_row hc hp
    have := at_marks c l p hp' hk
    rw [hm] at this
    simpa [notIn] using this
theorem btw_is {i r c : Int} {l : List Rw} (h0 : chkF i r c l = 0) {a b : Int} (ha : notIn (shMarks i r c l) a = false) (hb : notIn (shMarks i r c l) b = false) (hab : ¬ b < a) :
    rbtwF i r c l a b = (⟨a, b, sLo a b (shSpans i r c l), sHi a b (shSpans i r c l)⟩, 0) := by
  rw [← btw_same]
  have h1 : ∃ p : Nat, atF c a l = (p : Int) := by
    rcases at_in h0 a with ⟨h, _⟩ | ⟨_, h⟩
    · rw [ha] at h; cases h
    · exact h
  have h2 : ∃ p : Nat, atF c b l = (p : Int) := by
    rcases at_in h0 b with ⟨h, _⟩ | ⟨_, h⟩
    · rw [hb] at h; cases h
    · exact h
  obtain ⟨p, h1⟩ := h1
  obtain ⟨q, h2⟩ := h2
  have e1 : ¬ endsF i r c l a b ≠ 0 := by
    unfold endsF
    rw [if_neg (by simpa using h0), h1, h2, if_neg (by omega)]; decide
  unfold btwF
  rw [if_neg e1, if_neg hab]
def RBI (s t : List D) (f : Int → Int → Sp) (M T : List Int) (k : Nat) (st : St) : Prop := ∃ (x : Env 91) (h : Heap) (i : Nat) (d : D), st = ⟨x.l, h, []⟩ ∧ i + k = M.length ∧ x.v 2 = .ptr 2 0 ∧ x.v 3 = .ptr 3 0 ∧ h.get 2 = some (.cells 25 s) ∧ h.get 3 = some (.cells 25 t) ∧ x.v 7 = d ∧ x.v 8 = D.int (lastI (comF (M.take i) T)) ∧ x.v 9 = intsD M ∧ x.v 10 = D.int i ∧
  Gs h d (pairF f (comF (M.take i) T)) ∧ h.Fr ∧ 3 < h.next
theorem com_snoc (M T : List Int) (r : Int) : comF (M ++ [r]) T = if notIn T r = true then comF M T else comF M T ++ [r] := by
  unfold comF
  rw [List.filter_append]
  by_cases h : notIn T r = true <;> simp [h]
set_option maxHeartbeats 16000000 in
theorem rboth_round (i0 r0 c0 : Int) (l : List Rw) (i1 r1 c1 : Int) (l' : List Rw) (h0 : chkF i0 r0 c0 l = 0) (h1 : chkF i1 r1 c1 l' = 0) : ∀ n, l.length + l'.length + 600 ≤ n → ∀ k s, RBI (sheetC i0 r0 c0 l) (sheetC i1 r1 c1 l') (meetS (shSpans i0 r0 c0 l) (shSpans i1 r1 c1 l')) (shMarks i0 r0 c0 l) (shMarks i1 r1 c1 l') k s →
    Res (k59l0.ev ⟨pg, 91, none⟩ (rc pg n) s) (Rnd (RBI (sheetC i0 r0 c0 l) (sheetC i1 r1 c1 l') (meetS (shSpans i0 r0 c0 l) (shSpans i1 r1 c1 l')) (shMarks i0 r0 c0 l) (shMarks i1 r1 c1 l')) (fun x s => x = .exit 0 ∧ RBI (sheetC i0 r0 c0 l) (sheetC i1 r1 c1 l') (meetS (shSpans i0 r0 c0 l) (shSpans i1 r1 c1 l')) (shMarks i0 r0 c0 l) (shMarks i1 r1 c1 l') 0 s) k) := by
  have hM4 := shM_len i0 r0 c0 l
  have hin0 : ∀ v ∈ shMarks i0 r0 c0 l, notIn (shMarks i0 r0 c0 l) v = false := fun v hv => by simpa [notIn] using hv
  have hb0 := @btw_is i0 r0 c0 l h0
  have hb1 := @btw_is i1 r1 c1 l' h1
  have hat := @at_in i1 r1 c1 l' h1
  have hpos := marks_pos i0 r0 c0 l
  have hrise : (shMarks i0 r0 c0 l).Pairwise (· < ·) := by
    unfold shMarks; rw [if_pos h0]; exact (marks_rise c0 l _ (chk_core h0).2).1
  have hl1 := chk_len h0
  have hl2 := chk_len h1
  have hv1 := chk_ok h1
  obtain ⟨M, hMM⟩ : ∃ M, M = shMarks i0 r0 c0 l := ⟨_, rfl⟩
  obtain ⟨T, hTT⟩ : ∃ T, T = shMarks i1 r1 c1 l' := ⟨_, rfl⟩
  obtain ⟨A, hAA⟩ : ∃ A, A = shSpans i0 r0 c0 l := ⟨_, rfl⟩
  obtain ⟨B, hBB⟩ : ∃ B, B = shSpans i1 r1 c1 l' := ⟨_, rfl⟩
  rw [← hMM] at hM4 hin0 hb0 hpos hrise ⊢
  rw [← hTT] at hb1 hat ⊢
  rw [← hAA] at hb0 ⊢
  rw [← hBB] at hb1 ⊢
  rintro n hn k s ⟨x, h, i, d, rfl, hik, v2, v3, g2, g3, v7, v8, v9, v10, hd, hf, h3⟩
  have hfr : ∀ j, h.raw (h.next + j) = none := fun j => hf _ (by omega)
  have c0' : D.canonL (l.map rowD) = true := canonL_map rowD (fun _ => rfl) l
  have c1' : D.canonL (l'.map rowD) = true := canonL_map rowD (fun _ => rfl) l'
  have s82 : pg.sh 82 = false := rfl
  have s87 : pg.sh 87 = false := rfl
  have n2 : ∀ j, (2 = h.next + j) = False := fun j => by simp; omega
  have n3 : ∀ j, (3 = h.next + j) = False := fun j => by simp; omega
  simp only [sheetC, rowsD] at g2 g3
  simp only [intsD] at v9
  by_cases hlt : i < M.length
  · obtain ⟨r, hr⟩ : ∃ r, M[i] = r := ⟨M[i], rfl⟩
    have hrM : r ∈ M := by rw [← hr]; exact List.getElem_mem hlt
    have htake : M.take (i + 1) = M.take i ++ [r] := by rw [List.take_add_one, List.getElem?_eq_getElem hlt, hr]; rfl
    have hcs := com_snoc (M.take i) T r
    rw [← htake] at hcs
    have hw1 : IntKind.i64.wrap ((i : Int) + 1) = (i : Int) + 1 := wrap_i64 (by omega) (by omega)
    have p82 := @rat_run i1 r1 c1 r l' hl2 n (by omega)
    rw [at_same _ _ _ hv1] at p82
    rcases hat r with ⟨hni, ha⟩ | ⟨hni, p, ha⟩
    · rw [if_pos hni] at hcs
      rw [ha] at p82
      simp only [sheetC, rowsD] at p82
      simp [k59l0, v3, v9, v10, g3, hlt, hr, D.cells, D.one, dcore_f, s82, c1', p82, hw1]
      refine ⟨k - 1, by omega, _, _, i + 1, d, rfl, by omega, by simp [v2], by simp [v3], by simp [g2, sheetC, rowsD], by simp [g3, sheetC, rowsD], by simp [v7], by simp [v8, hcs], by simp [v9, intsD], by simp, ?_, ?_, by simp <;> omega⟩
      · rw [hcs]; exact hd.keep (by simp <;> omega) (fun k cs hk => by simpa using hk)
      · repeat' first | exact hf | apply Heap.Fr.bump | apply Heap.Fr.set
    · rw [if_neg (by rw [hni]; decide)] at hcs
      rw [ha] at p82
      simp only [sheetC, rowsD] at p82
      have hps := pairF_snoc (meetS A B) (comF (M.take i) T) r
      have hls := last_snoc (comF (M.take i) T) r
      rw [← hcs] at hps hls
      have hp0 : ¬ (p : Int) < 0 := by omega
      cases hlast : (comF (M.take i) T).getLast? with
      | none =>
        have hl0 : lastI (comF (M.take i) T) = -1 := by simp [lastI, hlast]
        have hnil : comF (M.take i) T = [] := List.getLast?_eq_none_iff.1 hlast
        rw [hlast] at hps
        rw [hl0] at v8
        rw [hnil] at hd
        simp [k59l0, v3, v8, v9, v10, g3, hlt, hr, D.cells, D.one, dcore_f, s82, c1', p82, hw1, hp0]
        refine ⟨k - 1, by omega, _, _, i + 1, d, rfl, by omega, by simp [v2], by simp [v3], by simp [g2, sheetC, rowsD], by simp [g3, sheetC, rowsD], by simp [v7], by simp [hls], by simp [v9, intsD], by simp, ?_, ?_, by simp <;> omega⟩
        · rw [hps]; exact hd.keep (by simp <;> omega) (fun k cs hk => by simpa using hk)
        · repeat' first | exact hf | apply Heap.Fr.bump | apply Heap.Fr.set
      | some a =>
        have hla : lastI (comF (M.take i) T) = a := by simp [lastI, hlast]
        have haC : a ∈ comF (M.take i) T := List.mem_of_getLast? hlast
        have haM : a ∈ M := List.mem_of_mem_take (com_mem haC)
        have haT : notIn T a = false := by have := (List.mem_filter.1 haC).2; simpa using this
        have ha1 := hpos a haM
        have har : a < r := by
          obtain ⟨j, hj, hja⟩ := List.getElem_of_mem (com_mem haC)
          rw [List.length_take] at hj
          rw [List.getElem_take] at hja
          have := List.pairwise_iff_getElem.1 hrise j i (by omega) hlt (by omega)
          rw [hja, hr] at this; exact this
        have q1 := @rbetween_run i0 r0 c0 a r l n (by omega)
        have q2 := @rbetween_run i1 r1 c1 a r l' n (by omega)
        rw [hb0 (hin0 a haM) (hin0 r hrM) (by omega)] at q1
        rw [hb1 haT hni (by omega)] at q2
        simp only [sheetC, rowsD, spD, spC] at q1 q2
        rw [hlast] at hps
        rw [hla] at v8
        have ha0 : 0 ≤ a := by
          have := (marks_rise c0 l (-1) (chk_core h0).2).2 a (by have := haM; rw [hMM] at this; unfold shMarks at this; rw [if_pos h0] at this; exact this)
          omega
        rcases hd with ⟨hl0, rfl⟩ | ⟨k1, rfl, hg1, hk2⟩
        · simp [k59l0, v2, v3, v7, v8, v9, v10, g2, g3, hlt, hr, D.cells, D.one, dcore_f, s82, s87, c0', c1', p82, q1, q2, hw1, hp0, ha0, hfr, Nat.add_assoc, zerosD, apK_some, room, maxLen, n2, n3]
          refine ⟨k - 1, by omega, _, _, i + 1, .slr (h.next + 540) 0 1 4 none, rfl, by omega, by simp [v2], by simp [v3], by simp [g2, sheetC, rowsD, n2], by simp [g3, sheetC, rowsD, n3], by simp, by simp [hls], by simp [v9, intsD], by simp, .inr ⟨h.next + 540, by simp [hps, hl0], by simp [hps, hl0, spC, meetS], by simp <;> omega⟩, ?_, by simp <;> omega⟩
          repeat' first | exact hf | apply Heap.Fr.bump | apply Heap.Fr.set
          all_goals (simp <;> omega)
        · have e1 : ∀ j, (k1 = h.next + j) = False := fun j => by simp; omega
          have e2 : ∀ j, (h.next + j = k1) = False := fun j => by simp; omega
          obtain ⟨P, hP⟩ : ∃ P, P = pairF (meetS A B) (comF (M.take i) T) := ⟨_, rfl⟩
          rw [← hP] at hg1 v7 hps
          have hPl : P.length ≤ 400 := by
            rw [hP, pairF_len]
            have := com_len (M.take i) T
            rw [List.length_take] at this; omega
          have hl4 : (P.flatMap spC).length = P.length * 4 := length_flatMap _ spC_len _
          have happ := fun t hh news => appS_none (t := t) (et := 54) (sz := 4) (bytes := 32) (h := hh) (m := 1) (news := news) (k := k1) (n := P.length) (cs := P.flatMap spC) hl4 (by omega) (by unfold room; omega) (by unfold maxLen; omega)
          have u1 : (2 = k1) = False := by simp; rintro rfl; rw [g2] at hg1; cases hg1
          have u2 : (3 = k1) = False := by simp; rintro rfl; rw [g3] at hg1; cases hg1
          simp [k59l0, v2, v3, v7, v8, v9, v10, g2, g3, hlt, hr, D.cells, D.one, dcore_f, s82, s87, c0', c1', p82, q1, q2, hw1, hp0, ha0, hfr, Nat.add_assoc, zerosD, apK_some, n2, n3, hg1, e1, e2, u1, u2, happ]
          refine ⟨k - 1, by omega, _, _, i + 1, .slr (h.next + 540) 0 (P.length + 1) 4 none, rfl, by omega, by simp [v2], by simp [v3], by simp [g2, sheetC, rowsD, n2, u1], by simp [g3, sheetC, rowsD, n3, u2], by simp, by simp [hls], by simp [v9, intsD], by simp, .inr ⟨h.next + 540, by simp [hps], by simp [hps, spC, meetS], by simp <;> omega⟩, ?_, by simp <;> omega⟩
          repeat' first | exact hf | apply Heap.Fr.bump | apply Heap.Fr.set
          all_goals (simp <;> omega)
  · simp [k59l0, v9, v10, hlt]
    exact ⟨_, _, i, d, rfl, by omega, by simp [v2], by simp [v3], by simp [g2, sheetC, rowsD], by simp [g3, sheetC, rowsD], by simp [v7], by simp [v8], by simp [v9, intsD], by simp [v10], hd.keep (by simp) (fun k cs hk => by simpa using hk), hf.bump _, by simp <;> omega⟩
set_option maxHeartbeats 4000000 in
theorem rboth_run (i r c : Int) (l : List Rw) (i' r' c' : Int) (l' : List Rw) {n : Nat} (hn : l.length + l'.length + 1500 ≤ n) : pureCall (rc pg n) 59 [D.agg (sheetC i r c l), D.agg (sheetC i' r' c' l')] = some (.ret (.tup [spsD (whereF (fun _ => true) i r c l i' r' c' l'), D.int (twoF i r c l i' r' c' l')])) := by
  obtain ⟨m, rfl, e⟩ := body (pg := pg) (f := 59) (args := [D.agg (sheetC i r c l), D.agg (sheetC i' r' c' l')]) (show 0 < n by omega) rfl rfl
  rw [e]
  have h1 := fun h => call_of (h := h) (pg := pg) (f := 45) rfl (sheet_canon i r c l) (@rcheck_run i r c l m (by omega))
  have h2 := fun h => call_of (h := h) (pg := pg) (f := 45) rfl (sheet_canon i' r' c' l') (@rcheck_run i' r' c' l' m (by omega))
  have h3 := fun h => call_of (h := h) (pg := pg) (f := 86) rfl (sheet_canon i r c l) (@rmarks_run i r c l m (by omega))
  simp only [sheetC, rowsD] at h1 h2 h3
  by_cases a : chkF i r c l = 0
  · by_cases b : chkF i' r' c' l' = 0
    · by_cases d : c = c'
      · subst d
        have hM4 := shM_len i r c l
        have hround := rboth_round i r c l i' r' c l' a b
        have e2 : twoF i r c l i' r' c l' = 0 := by unfold twoF; rw [if_neg (by simpa using a), if_neg (by simpa using b), if_neg (by simp)]
        unfold whereF
        rw [if_pos e2, e2]
        unfold bothF
        obtain ⟨M, hMM⟩ : ∃ M, M = shMarks i r c l := ⟨_, rfl⟩
        obtain ⟨T, hTT⟩ : ∃ T, T = shMarks i' r' c l' := ⟨_, rfl⟩
        obtain ⟨A, hAA⟩ : ∃ A, A = shSpans i r c l := ⟨_, rfl⟩
        obtain ⟨B, hBB⟩ : ∃ B, B = shSpans i' r' c l' := ⟨_, rfl⟩
        rw [← hMM] at hM4 hround h3 ⊢
        rw [← hTT] at hround ⊢
        rw [← hAA] at hround ⊢
        rw [← hBB] at hround ⊢
        simp only [sheetC, rowsD] at hround
        simp [k59, Env.v_ini, sheetC, rowsD, D.cells, D.one, h1, h2, h3, a, b, ev_loop]
        refine Res.endsAfter (lp_rule (l.length + l'.length + 600) _ _ hround M.length m _ (by omega)
          ⟨_, _, 0, .val (.slice none 0 0), rfl, by omega, by simp, by simp, by simp, by simp, by simp, by simp [lastI, comF], by simp [intsD], by simp, .inl ⟨rfl, rfl⟩, ?_, by simp⟩) ?_
        · repeat' first | exact Heap.Fr.empty | apply Heap.Fr.bump | apply Heap.Fr.set
          all_goals simp
        rintro x s ⟨rfl, x, h, j, d, rfl, hj, v2, v3, g2, g3, v7, v8, v9, v10, hd, hf, hx⟩
        obtain rfl : j = M.length := by omega
        rw [List.take_length] at hd
        have hd' : Gs (h.bump 91) d (pairF (meetS A B) (comF M T)) := hd.keep (by simp) (fun k cs hk => by simpa using hk)
        obtain ⟨ks, hz⟩ := hd'.frozen 21
        simp only [spsD] at hz
        have hft : ∀ L : List Sp, L.filter (fun _ => true) = L := fun L => List.filter_eq_self.2 fun _ _ => rfl
        simp [v7, hz, spsD, hft]
      · have d' : (c != c') = true := by simpa using d
        simp [k59, Env.v_ini, sheetC, rowsD, D.cells, D.one, h1, h2, a, b, d, d', twoF, whereF, spsD]
    · have b' : (chkF i' r' c' l' != 0) = true := by simpa using b
      simp [k59, Env.v_ini, sheetC, rowsD, D.cells, D.one, h1, h2, a, b, b', twoF, whereF, spsD]
  · have a' : (chkF i r c l != 0) = true := by simpa using a
    simp [k59, Env.v_ini, sheetC, rowsD, D.cells, D.one, h1, a, a', twoF, whereF, spsD]
end Go.Proofs.YtomiigdpggeacaaDoor
/- The spans that two sheets allow together, and those of which they allow none in common, by the document. -/
namespace Go.Proofs.YtomiigdpggeacaaDoor
open Go Go.Em
set_option maxRecDepth 100000
theorem where_where (W : Sp → Bool) (i r c : Int) (l : List Rw) (i' r' c' : Int) (l' : List Rw) : (whereF (fun _ => true) i r c l i' r' c' l').filter W = whereF W i r c l i' r' c' l' := by
  unfold whereF
  split
  · rw [List.filter_filter]; simp
  · rfl
def W25 (p : Sp) : Bool := decide (p.lo ≤ p.hi)
def W27 (p : Sp) : Bool := decide (p.hi < p.lo)
def RM25I (L : List Sp) (e : Int) (k : Nat) (s : St) : Prop := ∃ (x : Env 42) (h : Heap) (i : Nat) (d : D), s = ⟨x.l, h, []⟩ ∧ i + k = L.length ∧ x.v 6 = spsD L ∧ x.v 7 = D.int e ∧ x.v 8 = d ∧ x.v 9 = D.int i ∧ Gs h d ((L.take i).filter W25) ∧ h.Fr
set_option maxHeartbeats 4000000 in
theorem rm25_round (L : List Sp) (hL : L.length ≤ 400) (e : Int) : ∀ n, 0 ≤ n → ∀ k s, RM25I L e k s → Res (k25l0.ev ⟨pg, 42, none⟩ (rc pg n) s) (Rnd (RM25I L e) (fun x s => x = .exit 0 ∧ RM25I L e 0 s) k) := by
  rintro n hn k s ⟨x, h, i, d, rfl, hik, v6, v7, v8, v9, hd, hf⟩
  have hfr : ∀ j, h.raw (h.next + j) = none := fun j => hf _ (by omega)
  simp only [spsD, spD, spC] at v6
  by_cases hlt : i < L.length
  · obtain ⟨p, hp⟩ : ∃ p, L[i] = p := ⟨L[i], rfl⟩
    have htake : L.take (i + 1) = L.take i ++ [p] := by rw [List.take_add_one, List.getElem?_eq_getElem hlt, hp]; rfl
    have hw1 : IntKind.i64.wrap ((i : Int) + 1) = (i : Int) + 1 := wrap_i64 (by omega) (by omega)
    have hfl : (L.take (i + 1)).filter W25 = (L.take i).filter W25 ++ (if W25 p = true then [p] else []) := by
      rw [htake, List.filter_append]
      by_cases hW : W25 p = true <;> simp [hW]
    have hlen : ((L.take i).filter W25).length ≤ 400 := by
      have := List.length_filter_le W25 (L.take i)
      rw [List.length_take] at this; omega
    by_cases hW : p.lo ≤ p.hi
    · have hW' : W25 p = true := by simp [W25, hW]
      simp only [hW', if_true] at hfl
      rcases hd with ⟨hl0, rfl⟩ | ⟨k1, rfl, hg1, hk2⟩
      · simp [k25l0, v6, v8, v9, hlt, hp, spD, spC, D.cells, D.one, hw1, hfr, Nat.add_assoc, zerosD, apK_some, room, maxLen, hW]
        refine ⟨k - 1, by omega, _, _, i + 1, .slr (h.next + 123) 0 1 4 none, rfl, by omega, by simp [v6, spsD, spD, spC], by simp [v7], by simp, by simp, .inr ⟨h.next + 123, by simp [hfl, hl0], by simp [hfl, hl0, spC], by simp <;> omega⟩, ?_⟩
        repeat' first | exact hf | apply Heap.Fr.bump | apply Heap.Fr.set
        all_goals (simp <;> omega)
      · have e1 : ∀ j, (k1 = h.next + j) = False := fun j => by simp; omega
        have e2 : ∀ j, (h.next + j = k1) = False := fun j => by simp; omega
        obtain ⟨P, hP⟩ : ∃ P, P = (L.take i).filter W25 := ⟨_, rfl⟩
        rw [← hP] at hg1 v8 hfl hlen
        have hl4 : (P.flatMap spC).length = P.length * 4 := length_flatMap _ spC_len _
        have happ := fun t hh news => appS_none (t := t) (et := 54) (sz := 4) (bytes := 32) (h := hh) (m := 1) (news := news) (k := k1) (n := P.length) (cs := P.flatMap spC) hl4 (by omega) (by unfold room; omega) (by unfold maxLen; omega)
        simp [k25l0, v6, v8, v9, hlt, hp, spD, spC, D.cells, D.one, hw1, hfr, Nat.add_assoc, zerosD, apK_some, hg1, e1, e2, happ, hW]
        refine ⟨k - 1, by omega, _, _, i + 1, .slr (h.next + 123) 0 (P.length + 1) 4 none, rfl, by omega, by simp [v6, spsD, spD, spC], by simp [v7], by simp, by simp, .inr ⟨h.next + 123, by simp [hfl], by simp [hfl, spC], by simp <;> omega⟩, ?_⟩
        repeat' first | exact hf | apply Heap.Fr.bump | apply Heap.Fr.set
        all_goals (simp <;> omega)
    · have hW' : W25 p = false := by simp [W25]; omega
      simp only [hW', Bool.false_eq_true, if_false, List.append_nil] at hfl
      simp [k25l0, v6, v9, hlt, hp, spD, spC, D.cells, hw1, hW]
      refine ⟨k - 1, by omega, _, _, i + 1, d, rfl, by omega, by simp [v6, spsD, spD, spC], by simp [v7], by simp [v8], by simp, ?_, ?_⟩
      · rw [hfl]
        exact hd.keep (by simp <;> omega) (fun k cs hk => by simpa using hk)
      · repeat' first | exact hf | apply Heap.Fr.bump | apply Heap.Fr.set
  · simp [k25l0, v6, v9, hlt]
    exact ⟨_, _, i, d, rfl, by omega, by simp [v6, spsD, spD, spC], by simp [v7], by simp [v8], by simp [v9], hd.keep (by simp) (fun k cs hk => by simpa using hk), hf.bump _⟩
theorem rm25_run (i r c : Int) (l : List Rw) (i' r' c' : Int) (l' : List Rw) {n : Nat} (hn : l.length + l'.length + 2500 ≤ n) : pureCall (rc pg n) 25 [D.agg (sheetC i r c l), D.agg (sheetC i' r' c' l')] = some (.ret (.tup [spsD (whereF W25 i r c l i' r' c' l'), D.int (twoF i r c l i' r' c' l')])) := by
  obtain ⟨m, rfl, e⟩ := body (pg := pg) (f := 25) (args := [D.agg (sheetC i r c l), D.agg (sheetC i' r' c' l')]) (show 0 < n by omega) rfl rfl
  rw [e]
  have h1 := fun h => call_of (h := h) (pg := pg) (f := 59) rfl (two_canon i r c l i' r' c' l') (@rboth_run i r c l i' r' c' l' m (by omega))
  have hb := both_len i r c l i' r' c' l'
  rw [← where_where]
  have hL : (whereF (fun _ => true) i r c l i' r' c' l').length ≤ 400 := by
    unfold whereF
    split
    · have := List.length_filter_le (fun _ => true) (bothF i r c l i' r' c' l'); omega
    · simp
  obtain ⟨L, hLL⟩ : ∃ L, L = whereF (fun _ => true) i r c l i' r' c' l' := ⟨_, rfl⟩
  rw [← hLL] at h1 hL ⊢
  obtain ⟨E, hE⟩ : ∃ E, E = twoF i r c l i' r' c' l' := ⟨_, rfl⟩
  rw [← hE] at h1 ⊢
  simp only [sheetC, rowsD, spsD] at h1
  simp [k25, Env.v_ini, sheetC, rowsD, D.cells, D.one, h1, spsD, ev_loop]
  refine Res.endsAfter (lp_rule 0 (RM25I L E) (fun x s => x = .exit 0 ∧ RM25I L E 0 s) (rm25_round L hL E) L.length m _ (by omega)
    ⟨_, _, 0, .val (.slice none 0 0), rfl, by omega, by simp [spsD], by simp, by simp, by simp, .inl ⟨rfl, rfl⟩, ?_⟩) ?_
  · repeat' first | exact Heap.Fr.empty | apply Heap.Fr.bump | apply Heap.Fr.set
    all_goals simp
  rintro x s ⟨rfl, x, h, j, d, rfl, hj, v6, v7, v8, v9, hd, hf⟩
  obtain rfl : j = L.length := by omega
  rw [List.take_length] at hd
  have hd' : Gs (h.bump 42) d (L.filter W25) := hd.keep (by simp) (fun k cs hk => by simpa using hk)
  obtain ⟨ks, hz⟩ := hd'.frozen 21
  simp only [spsD] at hz
  simp [v7, v8, hz, spsD]
def RM27I (L : List Sp) (e : Int) (k : Nat) (s : St) : Prop := ∃ (x : Env 42) (h : Heap) (i : Nat) (d : D), s = ⟨x.l, h, []⟩ ∧ i + k = L.length ∧ x.v 6 = spsD L ∧ x.v 7 = D.int e ∧ x.v 8 = d ∧ x.v 9 = D.int i ∧ Gs h d ((L.take i).filter W27) ∧ h.Fr
set_option maxHeartbeats 4000000 in
theorem rm27_round (L : List Sp) (hL : L.length ≤ 400) (e : Int) : ∀ n, 0 ≤ n → ∀ k s, RM27I L e k s → Res (k27l0.ev ⟨pg, 42, none⟩ (rc pg n) s) (Rnd (RM27I L e) (fun x s => x = .exit 0 ∧ RM27I L e 0 s) k) := by
  rintro n hn k s ⟨x, h, i, d, rfl, hik, v6, v7, v8, v9, hd, hf⟩
  have hfr : ∀ j, h.raw (h.next + j) = none := fun j => hf _ (by omega)
  simp only [spsD, spD, spC] at v6
  by_cases hlt : i < L.length
  · obtain ⟨p, hp⟩ : ∃ p, L[i] = p := ⟨L[i], rfl⟩
    have htake : L.take (i + 1) = L.take i ++ [p] := by rw [List.take_add_one, List.getElem?_eq_getElem hlt, hp]; rfl
    have hw1 : IntKind.i64.wrap ((i : Int) + 1) = (i : Int) + 1 := wrap_i64 (by omega) (by omega)
    have hfl : (L.take (i + 1)).filter W27 = (L.take i).filter W27 ++ (if W27 p = true then [p] else []) := by
      rw [htake, List.filter_append]
      by_cases hW : W27 p = true <;> simp [hW]
    have hlen : ((L.take i).filter W27).length ≤ 400 := by
      have := List.length_filter_le W27 (L.take i)
      rw [List.length_take] at this; omega
    by_cases hW : p.hi < p.lo
    · have hW' : W27 p = true := by simp [W27, hW]
      simp only [hW', if_true] at hfl
      rcases hd with ⟨hl0, rfl⟩ | ⟨k1, rfl, hg1, hk2⟩
      · simp [k27l0, v6, v8, v9, hlt, hp, spD, spC, D.cells, D.one, hw1, hfr, Nat.add_assoc, zerosD, apK_some, room, maxLen, hW]
        refine ⟨k - 1, by omega, _, _, i + 1, .slr (h.next + 123) 0 1 4 none, rfl, by omega, by simp [v6, spsD, spD, spC], by simp [v7], by simp, by simp, .inr ⟨h.next + 123, by simp [hfl, hl0], by simp [hfl, hl0, spC], by simp <;> omega⟩, ?_⟩
        repeat' first | exact hf | apply Heap.Fr.bump | apply Heap.Fr.set
        all_goals (simp <;> omega)
      · have e1 : ∀ j, (k1 = h.next + j) = False := fun j => by simp; omega
        have e2 : ∀ j, (h.next + j = k1) = False := fun j => by simp; omega
        obtain ⟨P, hP⟩ : ∃ P, P = (L.take i).filter W27 := ⟨_, rfl⟩
        rw [← hP] at hg1 v8 hfl hlen
        have hl4 : (P.flatMap spC).length = P.length * 4 := length_flatMap _ spC_len _
        have happ := fun t hh news => appS_none (t := t) (et := 54) (sz := 4) (bytes := 32) (h := hh) (m := 1) (news := news) (k := k1) (n := P.length) (cs := P.flatMap spC) hl4 (by omega) (by unfold room; omega) (by unfold maxLen; omega)
        simp [k27l0, v6, v8, v9, hlt, hp, spD, spC, D.cells, D.one, hw1, hfr, Nat.add_assoc, zerosD, apK_some, hg1, e1, e2, happ, hW]
        refine ⟨k - 1, by omega, _, _, i + 1, .slr (h.next + 123) 0 (P.length + 1) 4 none, rfl, by omega, by simp [v6, spsD, spD, spC], by simp [v7], by simp, by simp, .inr ⟨h.next + 123, by simp [hfl], by simp [hfl, spC], by simp <;> omega⟩, ?_⟩
        repeat' first | exact hf | apply Heap.Fr.bump | apply Heap.Fr.set
        all_goals (simp <;> omega)
    · have hW' : W27 p = false := by simp [W27]; omega
      simp only [hW', Bool.false_eq_true, if_false, List.append_nil] at hfl
      simp [k27l0, v6, v9, hlt, hp, spD, spC, D.cells, hw1, hW]
      refine ⟨k - 1, by omega, _, _, i + 1, d, rfl, by omega, by simp [v6, spsD, spD, spC], by simp [v7], by simp [v8], by simp, ?_, ?_⟩
      · rw [hfl]
        exact hd.keep (by simp <;> omega) (fun k cs hk => by simpa using hk)
      · repeat' first | exact hf | apply Heap.Fr.bump | apply Heap.Fr.set
  · simp [k27l0, v6, v9, hlt]
    exact ⟨_, _, i, d, rfl, by omega, by simp [v6, spsD, spD, spC], by simp [v7], by simp [v8], by simp [v9], hd.keep (by simp) (fun k cs hk => by simpa using hk), hf.bump _⟩
theorem rm27_run (i r c : Int) (l : List Rw) (i' r' c' : Int) (l' : List Rw) {n : Nat} (hn : l.length + l'.length + 2500 ≤ n) : pureCall (rc pg n) 27 [D.agg (sheetC i r c l), D.agg (sheetC i' r' c' l')] = some (.ret (.tup [spsD (whereF W27 i r c l i' r' c' l'), D.int (twoF i r c l i' r' c' l')])) := by
  obtain ⟨m, rfl, e⟩ := body (pg := pg) (f := 27) (args := [D.agg (sheetC i r c l), D.agg (sheetC i' r' c' l')]) (show 0 < n by omega) rfl rfl
  rw [e]
  have h1 := fun h => call_of (h := h) (pg := pg) (f := 59) rfl (two_canon i r c l i' r' c' l') (@rboth_run i r c l i' r' c' l' m (by omega))
  have hb := both_len i r c l i' r' c' l'
  rw [← where_where]
  have hL : (whereF (fun _ => true) i r c l i' r' c' l').length ≤ 400 := by
    unfold whereF
    split
    · have := List.length_filter_le (fun _ => true) (bothF i r c l i' r' c' l'); omega
    · simp
  obtain ⟨L, hLL⟩ : ∃ L, L = whereF (fun _ => true) i r c l i' r' c' l' := ⟨_, rfl⟩
  rw [← hLL] at h1 hL ⊢
  obtain ⟨E, hE⟩ : ∃ E, E = twoF i r c l i' r' c' l' := ⟨_, rfl⟩
  rw [← hE] at h1 ⊢
  simp only [sheetC, rowsD, spsD] at h1
  simp [k27, Env.v_ini, sheetC, rowsD, D.cells, D.one, h1, spsD, ev_loop]
  refine Res.endsAfter (lp_rule 0 (RM27I L E) (fun x s => x = .exit 0 ∧ RM27I L E 0 s) (rm27_round L hL E) L.length m _ (by omega)
    ⟨_, _, 0, .val (.slice none 0 0), rfl, by omega, by simp [spsD], by simp, by simp, by simp, .inl ⟨rfl, rfl⟩, ?_⟩) ?_
  · repeat' first | exact Heap.Fr.empty | apply Heap.Fr.bump | apply Heap.Fr.set
    all_goals simp
  rintro x s ⟨rfl, x, h, j, d, rfl, hj, v6, v7, v8, v9, hd, hf⟩
  obtain rfl : j = L.length := by omega
  rw [List.take_length] at hd
  have hd' : Gs (h.bump 42) d (L.filter W27) := hd.keep (by simp) (fun k cs hk => by simpa using hk)
  obtain ⟨ks, hz⟩ := hd'.frozen 21
  simp only [spsD] at hz
  simp [v7, v8, hz, spsD]
end Go.Proofs.YtomiigdpggeacaaDoor
