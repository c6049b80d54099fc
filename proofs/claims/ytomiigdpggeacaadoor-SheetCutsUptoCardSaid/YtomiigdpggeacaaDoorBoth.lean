/- The spans that two sheets have together, by the program. -/
import Derived.Test.YtomiigdpggeacaaDoorCommon
import Derived.Test.YtomiigdpggeacaaDoorBtw
namespace Go.Proofs.YtomiigdpggeacaaDoor
open Go Go.Em
set_option maxRecDepth 100000
/-- The error of two sheets. -/
def twoF (i r c : Int) (l : List Rw) (i' r' c' : Int) (l' : List Rw) : Int := if chkF i r c l ≠ 0 then chkF i r c l else if chkF i' r' c' l' ≠ 0 then chkF i' r' c' l' else if c ≠ c' then 14 else 0
theorem two_canon (i r c : Int) (l : List Rw) (i' r' c' : Int) (l' : List Rw) : D.canonL [D.agg (sheetC i r c l), D.agg (sheetC i' r' c' l')] = true := by
  simp [sheetC, rowsD, canonL_map rowD (fun _ => rfl) l, canonL_map rowD (fun _ => rfl) l']
theorem two_run (i r c : Int) (l : List Rw) (i' r' c' : Int) (l' : List Rw) {n : Nat} (hn : l.length + l'.length + 30 ≤ n) : pureCall (rc pg n) 84 [D.agg (sheetC i r c l), D.agg (sheetC i' r' c' l')] = some (.ret (D.int (twoF i r c l i' r' c' l'))) := by
  obtain ⟨m, rfl, e⟩ := body (pg := pg) (f := 84) (args := [D.agg (sheetC i r c l), D.agg (sheetC i' r' c' l')]) (show 0 < n by omega) rfl rfl
  rw [e]
  have h1 := fun h => call_of (h := h) (pg := pg) (f := 40) rfl (sheet_canon i r c l) (@check_run i r c l m (by omega))
  have h2 := fun h => call_of (h := h) (pg := pg) (f := 40) rfl (sheet_canon i' r' c' l') (@check_run i' r' c' l' m (by omega))
  simp only [sheetC, rowsD] at h1 h2
  by_cases a : chkF i r c l = 0
  · by_cases b : chkF i' r' c' l' = 0
    · by_cases d : c = c'
      · subst d
        simp [k84, Env.v_ini, sheetC, rowsD, D.cells, D.one, h1, h2, a, b, twoF]
      · have d' : (c != c') = true := by simpa using d
        simp [k84, Env.v_ini, sheetC, rowsD, D.cells, D.one, h1, h2, a, b, d, d', twoF]
    · have b' : (chkF i' r' c' l' != 0) = true := by simpa using b
      simp [k84, Env.v_ini, sheetC, rowsD, D.cells, D.one, h1, h2, a, b, b', twoF]
  · have a' : (chkF i r c l != 0) = true := by simpa using a
    simp [k84, Env.v_ini, sheetC, rowsD, D.cells, D.one, h1, a, a', twoF]
/-- Pairs of neighbours, one more behind. -/
theorem pairF_snoc (f : Int → Int → Sp) : ∀ (l : List Int) (x : Int), pairF f (l ++ [x]) = ((l.getLast?).map fun a => pairF f l ++ [f a x]).getD []
  | [], _ => rfl
  | [a], x => rfl
  | a :: b :: l, x => by
    have ih := pairF_snoc f (b :: l) x
    rw [List.cons_append, List.cons_append, pairF_cons, ← List.cons_append, ih]
    rw [List.getLast?_cons_cons]
    cases h : (b :: l).getLast? with
    | none => simp at h
    | some y => rfl
def lastI (l : List Int) : Int := (l.getLast?).getD (-1)
/-- What both sheets allow between two marks. -/
def meetS (A B : List Sp) (a b : Int) : Sp := ⟨a, b, max (sLo a b A) (sLo a b B), min (sHi a b A) (sHi a b B)⟩
def BI2 (A B : List Sp) (M : List Int) (k : Nat) (s : St) : Prop := ∃ (x : Env 58) (h : Heap) (i : Nat) (d : D), s = ⟨x.l, h, []⟩ ∧ i + k = M.length ∧ x.v 5 = spsD A ∧ x.v 6 = spsD B ∧ x.v 7 = d ∧ x.v 8 = D.int (lastI (M.take i)) ∧ x.v 21 = intsD M ∧ x.v 22 = D.int M.length ∧ x.v 23 = D.int i ∧
  Gs h d (pairF (meetS A B) (M.take i)) ∧ h.Fr
theorem last_snoc (l : List Int) (x : Int) : lastI (l ++ [x]) = x := by simp [lastI]
set_option maxHeartbeats 4000000 in
theorem both_round (A B : List Sp) (hA : fineS A) (hB : fineS B) (M : List Int) (hM : M.length ≤ 400) (hp : ∀ v ∈ M, v ≠ -1) : ∀ n, 450 ≤ n → ∀ k s, BI2 A B M k s → Res (k85l0.ev ⟨pg, 58, none⟩ (rc pg n) s) (Rnd (BI2 A B M) (fun x s => x = .exit 0 ∧ BI2 A B M 0 s) k) := by
  rintro n hn k s ⟨x, h, i, d, rfl, hik, v5, v6, v7, v8, v21, v22, v23, hd, hf⟩
  have hfr : ∀ j, h.raw (h.next + j) = none := fun j => hf _ (by omega)
  have hA1 := hA.1
  have hB1 := hB.1
  have ca : ∀ u v : Int, D.canonL [spsD A, D.int u, D.int v] = true := fun u v => by simp [spsD, sps_canon]
  have cb : ∀ u v : Int, D.canonL [spsD B, D.int u, D.int v] = true := fun u v => by simp [spsD, sps_canon]
  have fa := fun u v h => call_of (h := h) (pg := pg) (f := 64) rfl (ca u v) (@from_run u v A hA n (by omega))
  have fb := fun u v h => call_of (h := h) (pg := pg) (f := 64) rfl (cb u v) (@from_run u v B hB n (by omega))
  simp only [spsD, intsD] at v5 v6 v21 fa fb
  by_cases hlt : i < M.length
  · obtain ⟨r, hr⟩ : ∃ r, M[i] = r := ⟨M[i], rfl⟩
    have htake : M.take (i + 1) = M.take i ++ [r] := by rw [List.take_add_one, List.getElem?_eq_getElem hlt, hr]; rfl
    have hw1 : IntKind.i64.wrap ((i : Int) + 1) = (i : Int) + 1 := wrap_i64 (by omega) (by omega)
    have hps := pairF_snoc (meetS A B) (M.take i) r
    have hls := last_snoc (M.take i) r
    rw [← htake] at hps hls
    by_cases h0 : i = 0
    · subst h0
      have hl1 : lastI (M.take 0) = -1 := rfl
      rw [hl1] at v8
      have hw0 : IntKind.i64.wrap 1 = 1 := rfl
      simp [k85l0, v8, v21, v22, v23, hlt, hr, D.cells, hw0]
      have hone : pairF (meetS A B) (M.take 1) = [] := by rw [hps]; rfl
      refine ⟨k - 1, by omega, _, _, 1, d, rfl, by omega, by simp [v5, spsD], by simp [v6, spsD], by simp [v7], by simp [hls], by simp [v21, intsD], by simp [v22], by simp, by rw [hone]; exact hd.keep (by simp <;> omega) (fun k cs hk => by simpa using hk), ?_⟩
      repeat' first | exact hf | apply Heap.Fr.bump | apply Heap.Fr.set
    · obtain ⟨a, ha⟩ : ∃ a, (M.take i).getLast? = some a := by
        cases hc : (M.take i).getLast? with
        | none => rw [List.getLast?_eq_none_iff] at hc; have := congrArg List.length hc; rw [List.length_take, List.length_nil] at this; omega
        | some a => exact ⟨a, rfl⟩
      have hla : lastI (M.take i) = a := by simp [lastI, ha]
      have ham : a ∈ M := List.mem_of_mem_take (List.mem_of_getLast? ha)
      have ha1 := hp a ham
      have ha1' : (a != -1) = true := by simpa using ha1
      rw [ha] at hps
      rw [hla] at v8
      rcases hd with ⟨hl0, rfl⟩ | ⟨k1, rfl, hg1, hk2⟩
      · simp [k85l0, v5, v6, v7, v8, v21, v22, v23, hlt, hr, D.cells, D.one, hw1, fa, fb, ha1', hfr, Nat.add_assoc, zerosD, apK_some, room, maxLen]
        refine ⟨k - 1, by omega, _, _, i + 1, .slr (h.next + 344) 0 1 4 none, rfl, by omega, by simp [v5, spsD], by simp [v6, spsD], by simp, by simp [hls], by simp [v21, intsD], by simp [v22], by simp, .inr ⟨h.next + 344, by simp [hps, hl0], by simp [hps, hl0, spC, meetS], by simp <;> omega⟩, ?_⟩
        repeat' first | exact hf | apply Heap.Fr.bump | apply Heap.Fr.set
        all_goals (simp <;> omega)
      · have e1 : ∀ j, (k1 = h.next + j) = False := fun j => by simp; omega
        have e2 : ∀ j, (h.next + j = k1) = False := fun j => by simp; omega
        obtain ⟨P, hP⟩ : ∃ P, P = pairF (meetS A B) (M.take i) := ⟨_, rfl⟩
        rw [← hP] at hg1 v7 hps
        have hPl : P.length ≤ 400 := by rw [hP, pairF_len, List.length_take]; omega
        have hl4 : (P.flatMap spC).length = P.length * 4 := length_flatMap _ spC_len _
        have happ := fun t hh news => appS_none (t := t) (et := 54) (sz := 4) (bytes := 32) (h := hh) (m := 1) (news := news) (k := k1) (n := P.length) (cs := P.flatMap spC) hl4 (by omega) (by unfold room; omega) (by unfold maxLen; omega)
        simp [k85l0, v5, v6, v7, v8, v21, v22, v23, hlt, hr, D.cells, D.one, hw1, fa, fb, ha1', hfr, Nat.add_assoc, zerosD, apK_some, hg1, e1, e2, happ]
        refine ⟨k - 1, by omega, _, _, i + 1, .slr (h.next + 344) 0 (P.length + 1) 4 none, rfl, by omega, by simp [v5, spsD], by simp [v6, spsD], by simp, by simp [hls], by simp [v21, intsD], by simp [v22], by simp, .inr ⟨h.next + 344, by simp [hps], by simp [hps, spC, meetS], by simp <;> omega⟩, ?_⟩
        repeat' first | exact hf | apply Heap.Fr.bump | apply Heap.Fr.set
        all_goals (simp <;> omega)
  · simp [k85l0, v22, v23, hlt]
    exact ⟨_, _, i, d, rfl, by omega, by simp [v5, spsD], by simp [v6, spsD], by simp [v7], by simp [v8], by simp [v21, intsD], by simp [v22], by simp [v23], hd.keep (by simp) (fun k cs hk => by simpa using hk), hf.bump _⟩
/-- The spans that both sheets have together. -/
def bothF (i r c : Int) (l : List Rw) (i' r' c' : Int) (l' : List Rw) : List Sp := pairF (meetS (shSpans i r c l) (shSpans i' r' c' l')) (comF (shMarks i r c l) (shMarks i' r' c' l'))
theorem marks_pos (i r c : Int) (l : List Rw) : ∀ v ∈ shMarks i r c l, v ≠ -1 := by
  unfold shMarks
  split
  · rename_i h0
    intro v hv
    have := (marks_rise c l (-1) (chk_core h0).2).2 v hv
    omega
  · intro v hv; cases hv
theorem com_mem {A B : List Int} {v : Int} (h : v ∈ comF A B) : v ∈ A := (List.mem_filter.1 h).1
theorem com_len (A B : List Int) : (comF A B).length ≤ A.length := List.length_filter_le _ _
set_option maxHeartbeats 1000000 in
theorem both_run (i r c : Int) (l : List Rw) (i' r' c' : Int) (l' : List Rw) {n : Nat} (hn : l.length + l'.length + 1500 ≤ n) : pureCall (rc pg n) 85 [D.agg (sheetC i r c l), D.agg (sheetC i' r' c' l')] = some (.ret (spsD (bothF i r c l i' r' c' l'))) := by
  obtain ⟨m, rfl, e⟩ := body (pg := pg) (f := 85) (args := [D.agg (sheetC i r c l), D.agg (sheetC i' r' c' l')]) (show 0 < n by omega) rfl rfl
  rw [e]
  have h1 := @spans_run i r c l m (by omega)
  have h2 := @spans_run i' r' c' l' m (by omega)
  have h3 := fun h => call_of (h := h) (pg := pg) (f := 105) rfl (two_canon i r c l i' r' c' l') (@common_run i r c l i' r' c' l' m (by omega))
  have s1 : pg.sh 63 = false := rfl
  have c1 : D.canonL (l.map rowD) = true := canonL_map rowD (fun _ => rfl) l
  have c2 : D.canonL (l'.map rowD) = true := canonL_map rowD (fun _ => rfl) l'
  have hM := com_len (shMarks i r c l) (shMarks i' r' c' l')
  have hM2 := shM_len i r c l
  obtain ⟨M, hMM⟩ : ∃ M, M = comF (shMarks i r c l) (shMarks i' r' c' l') := ⟨_, rfl⟩
  rw [← hMM] at h3 hM
  have hA := shSpans_fine i r c l
  have hB := shSpans_fine i' r' c' l'
  unfold bothF
  rw [← hMM]
  obtain ⟨A, hAA⟩ : ∃ A, A = shSpans i r c l := ⟨_, rfl⟩
  obtain ⟨B, hBB⟩ : ∃ B, B = shSpans i' r' c' l' := ⟨_, rfl⟩
  rw [← hAA] at h1 hA ⊢
  rw [← hBB] at h2 hB ⊢
  have hpos : ∀ v ∈ M, v ≠ -1 := fun v hv => marks_pos i r c l v (com_mem (by rw [hMM] at hv; exact hv))
  simp only [sheetC, rowsD, spsD, intsD] at h1 h2 h3
  simp [k85, Env.v_ini, sheetC, rowsD, D.cells, D.one, dcore_f, s1, c1, c2, h1, h2, h3, spsD, intsD, ev_loop]
  refine Res.endsAfter (lp_rule 450 (BI2 A B M) (fun x s => x = .exit 0 ∧ BI2 A B M 0 s) (both_round A B hA hB M (by omega) hpos) M.length m _ (by omega)
    ⟨_, _, 0, .val (.slice none 0 0), rfl, by omega, by simp [spsD], by simp [spsD], by simp, by simp [lastI], by simp [intsD], by simp, by simp, .inl ⟨rfl, rfl⟩, ?_⟩) ?_
  · repeat' first | exact Heap.Fr.empty | apply Heap.Fr.bump | apply Heap.Fr.set
    all_goals simp
  rintro x s ⟨rfl, x, h, j, d, rfl, hj, v5, v6, v7, v8, v21, v22, v23, hd, hf⟩
  obtain rfl : j = M.length := by omega
  rw [List.take_length] at hd
  have hd' : Gs (h.bump 58) d (pairF (meetS A B) M) := hd.keep (by simp) (fun k cs hk => by simpa using hk)
  obtain ⟨ks, hz⟩ := hd'.frozen 22
  simp only [spsD] at hz
  simp [v7, hz, spsD]
end Go.Proofs.YtomiigdpggeacaaDoor
/- The spans that two sheets allow together, and those of which they allow none in common, by the program. -/
namespace Go.Proofs.YtomiigdpggeacaaDoor
open Go Go.Em
set_option maxRecDepth 100000
theorem want_run (p : Sp) {n : Nat} (hn : 1 ≤ n) : pureCall (rc pg n) 58 [spD p] = some (.ret (D.bool (decide (p.lo ≤ p.hi)))) := by
  obtain ⟨m, rfl, e⟩ := body (pg := pg) (f := 58) (args := [spD p]) (show 0 < n by omega) rfl rfl
  rw [e]
  simp [k58, Env.v_ini, spD, spC, D.cells, D.one]
theorem want2_run (p : Sp) {n : Nat} (hn : 1 ≤ n) : pureCall (rc pg n) 60 [spD p] = some (.ret (D.bool (decide (p.hi < p.lo)))) := by
  obtain ⟨m, rfl, e⟩ := body (pg := pg) (f := 60) (args := [spD p]) (show 0 < n by omega) rfl rfl
  rw [e]
  simp [k60, Env.v_ini, spD, spC, D.cells, D.one]
def MWI (fw : FuncId) (W : Sp → Bool) (L : List Sp) (k : Nat) (s : St) : Prop := ∃ (x : Env 35) (h : Heap) (i : Nat) (d : D), s = ⟨x.l, h, []⟩ ∧ i + k = L.length ∧ x.v 2 = .fn (.func fw) [] [] ∧ x.v 9 = d ∧ x.v 20 = spsD L ∧ x.v 21 = D.int L.length ∧ x.v 22 = D.int i ∧ Gs h d ((L.take i).filter W) ∧ h.Fr
set_option maxHeartbeats 4000000 in
theorem where_round (fw : FuncId) (W : Sp → Bool) (L : List Sp) (hL : L.length ≤ 400) (n0 : Nat) (hw : ∀ n, n0 ≤ n → ∀ p h, call pg (rc pg n) fw [spD p] h = some (.ret (D.bool (W p)), h)) : ∀ n, n0 ≤ n → ∀ k s, MWI fw W L k s → Res (k57l0.ev ⟨pg, 35, none⟩ (rc pg n) s) (Rnd (MWI fw W L) (fun x s => x = .exit 0 ∧ MWI fw W L 0 s) k) := by
  rintro n hn k s ⟨x, h, i, d, rfl, hik, v2, v9, v20, v21, v22, hd, hf⟩
  have hfr : ∀ j, h.raw (h.next + j) = none := fun j => hf _ (by omega)
  have hc := hw n hn
  simp only [spsD, spD, spC] at v20 hc
  by_cases hlt : i < L.length
  · obtain ⟨p, hp⟩ : ∃ p, L[i] = p := ⟨L[i], rfl⟩
    have hcp := hc p
    have htake : L.take (i + 1) = L.take i ++ [p] := by rw [List.take_add_one, List.getElem?_eq_getElem hlt, hp]; rfl
    have hw1 : IntKind.i64.wrap ((i : Int) + 1) = (i : Int) + 1 := wrap_i64 (by omega) (by omega)
    have hfl : (L.take (i + 1)).filter W = (L.take i).filter W ++ (if W p = true then [p] else []) := by
      rw [htake, List.filter_append]
      by_cases hW : W p = true <;> simp [hW]
    have hlen : ((L.take i).filter W).length ≤ 400 := by
      have := List.length_filter_le W (L.take i)
      rw [List.length_take] at this; omega
    cases hW : W p with
    | false =>
      rw [hW] at hcp
      simp only [hW, Bool.false_eq_true, if_false, List.append_nil] at hfl
      simp [k57l0, v2, v20, v21, v22, hlt, hp, spD, spC, D.cells, D.one, hw1, hfr, Nat.add_assoc, hcp]
      refine ⟨k - 1, by omega, _, _, i + 1, d, rfl, by omega, by simp [v2], by simp [v9], by simp [v20, spsD, spD, spC], by simp [v21], by simp, ?_, ?_⟩
      · rw [hfl]
        refine hd.keep (by simp <;> omega) fun k cs hk => ?_
        have := Fr_lt hf hk
        simp [hk, show k ≠ h.next + 46 by omega]
      · repeat' first | exact hf | apply Heap.Fr.bump | apply Heap.Fr.set
        all_goals (simp <;> omega)
    | true =>
      rw [hW] at hcp
      simp only [hW, if_true] at hfl
      rcases hd with ⟨hl0, rfl⟩ | ⟨k1, rfl, hg1, hk2⟩
      · simp [k57l0, v2, v9, v20, v21, v22, hlt, hp, spD, spC, D.cells, D.one, hw1, hfr, Nat.add_assoc, hcp, zerosD, apK_some, room, maxLen]
        refine ⟨k - 1, by omega, _, _, i + 1, .slr (h.next + 137) 0 1 4 none, rfl, by omega, by simp [v2], by simp, by simp [v20, spsD, spD, spC], by simp [v21], by simp, .inr ⟨h.next + 137, by simp [hfl, hl0], by simp [hfl, hl0, spC], by simp <;> omega⟩, ?_⟩
        repeat' first | exact hf | apply Heap.Fr.bump | apply Heap.Fr.set
        all_goals (simp <;> omega)
      · have e1 : ∀ j, (k1 = h.next + j) = False := fun j => by simp; omega
        have e2 : ∀ j, (h.next + j = k1) = False := fun j => by simp; omega
        obtain ⟨P, hP⟩ : ∃ P, P = (L.take i).filter W := ⟨_, rfl⟩
        rw [← hP] at hg1 v9 hfl hlen
        have hl4 : (P.flatMap spC).length = P.length * 4 := length_flatMap _ spC_len _
        have happ := fun t hh news => appS_none (t := t) (et := 54) (sz := 4) (bytes := 32) (h := hh) (m := 1) (news := news) (k := k1) (n := P.length) (cs := P.flatMap spC) hl4 (by omega) (by unfold room; omega) (by unfold maxLen; omega)
        simp [k57l0, v2, v9, v20, v21, v22, hlt, hp, spD, spC, D.cells, D.one, hw1, hfr, Nat.add_assoc, hcp, zerosD, apK_some, hg1, e1, e2, happ]
        refine ⟨k - 1, by omega, _, _, i + 1, .slr (h.next + 137) 0 (P.length + 1) 4 none, rfl, by omega, by simp [v2], by simp, by simp [v20, spsD, spD, spC], by simp [v21], by simp, .inr ⟨h.next + 137, by simp [hfl], by simp [hfl, spC], by simp <;> omega⟩, ?_⟩
        repeat' first | exact hf | apply Heap.Fr.bump | apply Heap.Fr.set
        all_goals (simp <;> omega)
  · simp [k57l0, v21, v22, hlt]
    exact ⟨_, _, i, d, rfl, by omega, by simp [v2], by simp [v9], by simp [v20, spsD, spD, spC], by simp [v21], by simp [v22], hd.keep (by simp) (fun k cs hk => by simpa using hk), hf.bump _⟩
/-- The spans of both that are wanted. -/
def whereF (W : Sp → Bool) (i r c : Int) (l : List Rw) (i' r' c' : Int) (l' : List Rw) : List Sp := if twoF i r c l i' r' c' l' = 0 then (bothF i r c l i' r' c' l').filter W else []
theorem both_len (i r c : Int) (l : List Rw) (i' r' c' : Int) (l' : List Rw) : (bothF i r c l i' r' c' l').length ≤ 400 := by
  unfold bothF
  rw [pairF_len]
  have h1 := com_len (shMarks i r c l) (shMarks i' r' c' l')
  have h2 := shM_len i r c l
  omega
set_option maxHeartbeats 1000000 in
theorem where_run (fw : FuncId) (W : Sp → Bool) (hw : ∀ n, 1 ≤ n → ∀ p h, call pg (rc pg n) fw [spD p] h = some (.ret (D.bool (W p)), h)) (i r c : Int) (l : List Rw) (i' r' c' : Int) (l' : List Rw) {n : Nat} (hn : l.length + l'.length + 2000 ≤ n) :
    pureCall (rc pg n) 57 [D.agg (sheetC i r c l), D.agg (sheetC i' r' c' l'), .fn (.func fw) [] []] = some (.ret (.tup [spsD (whereF W i r c l i' r' c' l'), D.int (twoF i r c l i' r' c' l')])) := by
  obtain ⟨m, rfl, e⟩ := body (pg := pg) (f := 57) (args := [D.agg (sheetC i r c l), D.agg (sheetC i' r' c' l'), .fn (.func fw) [] []]) (show 0 < n by omega) rfl rfl
  rw [e]
  have h1 := fun h => call_of (h := h) (pg := pg) (f := 84) rfl (two_canon i r c l i' r' c' l') (@two_run i r c l i' r' c' l' m (by omega))
  have h2 := fun h => call_of (h := h) (pg := pg) (f := 85) rfl (two_canon i r c l i' r' c' l') (@both_run i r c l i' r' c' l' m (by omega))
  have hL := both_len i r c l i' r' c' l'
  unfold whereF
  obtain ⟨L, hLL⟩ : ∃ L, L = bothF i r c l i' r' c' l' := ⟨_, rfl⟩
  rw [← hLL] at h2 hL ⊢
  simp only [sheetC, rowsD, spsD] at h1 h2
  by_cases h0 : twoF i r c l i' r' c' l' = 0
  · simp [k57, Env.v_ini, sheetC, rowsD, D.cells, D.one, h1, h2, h0, spsD, ev_loop]
    refine Res.endsAfter (lp_rule 1 (MWI fw W L) (fun x s => x = .exit 0 ∧ MWI fw W L 0 s) (where_round fw W L hL 1 hw) L.length m _ (by omega)
      ⟨_, _, 0, .val (.slice none 0 0), rfl, by omega, by simp [Env.v_ini], by simp, by simp [spsD], by simp, by simp, .inl ⟨rfl, rfl⟩, ?_⟩) ?_
    · repeat' first | exact Heap.Fr.empty | apply Heap.Fr.bump | apply Heap.Fr.set
      all_goals simp
    rintro x s ⟨rfl, x, h, j, d, rfl, hj, v2, v9, v20, v21, v22, hd, hf⟩
    obtain rfl : j = L.length := by omega
    rw [List.take_length] at hd
    have hd' : Gs (h.bump 35) d (L.filter W) := hd.keep (by simp) (fun k cs hk => by simpa using hk)
    obtain ⟨ks, hz⟩ := hd'.frozen 21
    simp only [spsD] at hz
    simp [v9, hz, spsD]
  · have h0' : (twoF i r c l i' r' c' l' != 0) = true := by simpa using h0
    simp [k57, Env.v_ini, sheetC, rowsD, D.cells, D.one, h1, h0', h0, spsD]
theorem spD_canon (p : Sp) : D.canonL [spD p] = true := rfl
theorem meet_run (i r c : Int) (l : List Rw) (i' r' c' : Int) (l' : List Rw) {n : Nat} (hn : l.length + l'.length + 2500 ≤ n) :
    pureCall (rc pg n) 24 [D.agg (sheetC i r c l), D.agg (sheetC i' r' c' l')] = some (.ret (.tup [spsD (whereF (fun p => decide (p.lo ≤ p.hi)) i r c l i' r' c' l'), D.int (twoF i r c l i' r' c' l')])) := by
  obtain ⟨m, rfl, e⟩ := body (pg := pg) (f := 24) (args := [D.agg (sheetC i r c l), D.agg (sheetC i' r' c' l')]) (show 0 < n by omega) rfl rfl
  rw [e]
  have hcn : D.canonL [D.agg (sheetC i r c l), D.agg (sheetC i' r' c' l'), .fn (.func 58) [] []] = true := by have := two_canon i r c l i' r' c' l'; simp only [D.canonL, Bool.and_eq_true] at this ⊢; exact ⟨this.1, this.2.1, rfl, trivial⟩
  have h1 := fun h => call_of (h := h) (pg := pg) (f := 57) rfl hcn (@where_run 58 (fun p => decide (p.lo ≤ p.hi)) (fun n hn p h => call_of rfl (spD_canon p) (want_run p hn)) i r c l i' r' c' l' m (by omega))
  obtain ⟨S, hS⟩ : ∃ S, S = whereF (fun p => decide (p.lo ≤ p.hi)) i r c l i' r' c' l' := ⟨_, rfl⟩
  rw [← hS] at h1 ⊢
  have hcs := sps_canon S
  simp only [sheetC, rowsD, spsD] at h1
  have hz := fun h n => each_canon h n _ hcs
  simp [k24, Env.v_ini, sheetC, rowsD, D.cells, D.one, h1, spsD, hz]
theorem apart_run (i r c : Int) (l : List Rw) (i' r' c' : Int) (l' : List Rw) {n : Nat} (hn : l.length + l'.length + 2500 ≤ n) :
    pureCall (rc pg n) 26 [D.agg (sheetC i r c l), D.agg (sheetC i' r' c' l')] = some (.ret (.tup [spsD (whereF (fun p => decide (p.hi < p.lo)) i r c l i' r' c' l'), D.int (twoF i r c l i' r' c' l')])) := by
  obtain ⟨m, rfl, e⟩ := body (pg := pg) (f := 26) (args := [D.agg (sheetC i r c l), D.agg (sheetC i' r' c' l')]) (show 0 < n by omega) rfl rfl
  rw [e]
  have hcn : D.canonL [D.agg (sheetC i r c l), D.agg (sheetC i' r' c' l'), .fn (.func 60) [] []] = true := by have := two_canon i r c l i' r' c' l'; simp only [D.canonL, Bool.and_eq_true] at this ⊢; exact ⟨this.1, this.2.1, rfl, trivial⟩
  have h1 := fun h => call_of (h := h) (pg := pg) (f := 57) rfl hcn (@where_run 60 (fun p => decide (p.hi < p.lo)) (fun n hn p h => call_of rfl (spD_canon p) (want2_run p hn)) i r c l i' r' c' l' m (by omega))
  obtain ⟨S, hS⟩ : ∃ S, S = whereF (fun p => decide (p.hi < p.lo)) i r c l i' r' c' l' := ⟨_, rfl⟩
  rw [← hS] at h1 ⊢
  have hcs := sps_canon S
  simp only [sheetC, rowsD, spsD] at h1
  have hz := fun h n => each_canon h n _ hcs
  simp [k26, Env.v_ini, sheetC, rowsD, D.cells, D.one, h1, spsD, hz]
end Go.Proofs.YtomiigdpggeacaaDoor
