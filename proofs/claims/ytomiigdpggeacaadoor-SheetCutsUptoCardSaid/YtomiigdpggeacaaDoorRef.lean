/- The document's own answers: rows and their years. -/
import Derived.Test.YtomiigdpggeacaaDoorCheck
namespace Go.Proofs.YtomiigdpggeacaaDoor
open Go Go.Em
set_option maxRecDepth 100000
theorem rin_run {n : Nat} (hn : 1 ≤ n) (a lo hi : Int) : pureCall (rc pg n) 76 [D.int a, D.int lo, D.int hi] = some (.ret (D.bool (inB a lo hi))) := by
  obtain ⟨m, rfl, e⟩ := body (pg := pg) (f := 76) (args := [D.int a, D.int lo, D.int hi]) hn rfl rfl
  rw [e]
  by_cases h1 : lo ≤ a <;> simp [k76, Env.v_ini, h1, inB]
def rowErr (r : Rw) : Int := if (natF r).valid = true then 0 else 10
theorem kinds_cases (r : Rw) (P : Prop) (h1 : r.k = 1 → P) (h2 : r.k = 2 → P) (h3 : r.k = 3 → P) (h4 : r.k = 4 → P) (h5 : r.k = 5 → P) (h6 : r.k = 6 → P)
    (h0 : (r.k == 1) = false → (r.k == 2) = false → (r.k == 3) = false → (r.k == 4) = false → (r.k == 5) = false → (r.k == 6) = false → r.k ≠ 1 → r.k ≠ 2 → r.k ≠ 3 → r.k ≠ 4 → r.k ≠ 5 → r.k ≠ 6 → P) : P := by
  by_cases a1 : r.k = 1
  · exact h1 a1
  by_cases a2 : r.k = 2
  · exact h2 a2
  by_cases a3 : r.k = 3
  · exact h3 a3
  by_cases a4 : r.k = 4
  · exact h4 a4
  by_cases a5 : r.k = 5
  · exact h5 a5
  by_cases a6 : r.k = 6
  · exact h6 a6
  exact h0 (by simpa using a1) (by simpa using a2) (by simpa using a3) (by simpa using a4) (by simpa using a5) (by simpa using a6) a1 a2 a3 a4 a5 a6
theorem rrow_run {n : Nat} (hn : 2 ≤ n) (r : Rw) : pureCall (rc pg n) 99 [rowD r] = some (.ret (D.int (rowErr r))) := by
  obtain ⟨m, rfl, e⟩ := body (pg := pg) (f := 99) (args := [rowD r]) (show 0 < n by omega) rfl rfl
  rw [e]
  have hw := fun a lo hi h => call_of (h := h) (pg := pg) (f := 76) rfl rfl (@rin_run m (by omega) a lo hi)
  obtain ⟨k, a, b⟩ := r
  refine kinds_cases ⟨k, a, b⟩ _ ?_ ?_ ?_ ?_ ?_ ?_ ?_
  · rintro rfl
    by_cases h : inB a 0 63 = true <;> cases hb : (b == 0) <;> simp [k99, Env.v_ini, rowD, D.cells, D.one, hw, h, hb, rowErr, natF]
  · rintro rfl
    by_cases h : inB a 1 100000 = true <;> cases hb : (b == 0) <;> simp [k99, Env.v_ini, rowD, D.cells, D.one, hw, h, hb, rowErr, natF, thickB]
  · rintro rfl
    by_cases h : inB a 1 100000 = true <;> by_cases hb : inB b 1 100000 = true <;> simp [k99, Env.v_ini, rowD, D.cells, D.one, hw, h, hb, rowErr, natF, thickB]
  · rintro rfl
    by_cases h : inB a 1 1000 = true <;> cases hb : (b == 0) <;> simp [k99, Env.v_ini, rowD, D.cells, D.one, hw, h, hb, rowErr, natF]
  · rintro rfl
    by_cases h : inB a 1 100000 = true <;> cases hb : (b == 0) <;> simp [k99, Env.v_ini, rowD, D.cells, D.one, hw, h, hb, rowErr, natF, thickB]
  · rintro rfl
    by_cases h : inB a 0 b = true <;> by_cases hb : inB b 1 1000 = true <;> simp [k99, Env.v_ini, rowD, D.cells, D.one, hw, h, hb, rowErr, natF]
  · intro b1 b2 b3 b4 b5 b6 a1 a2 a3 a4 a5 a6
    simp only at b1 b2 b3 b4 b5 b6 a1 a2 a3 a4 a5 a6
    simp [k99, Env.v_ini, rowD, D.cells, D.one, rowErr, natF, b1, b2, b3, b4, b5, b6, a1, a2, a3, a4, a5, a6]
theorem least_run {n : Nat} (hn : 1 ≤ n) (r : Rw) : pureCall (rc pg n) 100 [rowD r] = some (.ret (D.int (natF r).lo)) := by
  obtain ⟨m, rfl, e⟩ := body (pg := pg) (f := 100) (args := [rowD r]) (show 0 < n by omega) rfl rfl
  rw [e]
  obtain ⟨k, a, b⟩ := r
  refine kinds_cases ⟨k, a, b⟩ _ ?_ ?_ ?_ ?_ ?_ ?_ ?_
  iterate 6
    · rintro rfl
      simp [k100, Env.v_ini, rowD, D.cells, D.one, natF]
  · intro b1 b2 b3 b4 b5 b6 a1 a2 a3 a4 a5 a6
    simp only at b1 b2 b3 b4 b5 b6 a1 a2 a3 a4 a5 a6
    simp [k100, Env.v_ini, rowD, D.cells, D.one, natF, b2, b3, b6, a1, a2, a3, a4, a5, a6]
theorem most_run {n : Nat} (hn : 1 ≤ n) (r : Rw) : pureCall (rc pg n) 101 [rowD r] = some (.ret (D.int (natF r).hi)) := by
  obtain ⟨m, rfl, e⟩ := body (pg := pg) (f := 101) (args := [rowD r]) (show 0 < n by omega) rfl rfl
  rw [e]
  obtain ⟨k, a, b⟩ := r
  refine kinds_cases ⟨k, a, b⟩ _ ?_ ?_ ?_ ?_ ?_ ?_ ?_
  iterate 6
    · rintro rfl
      simp [k101, Env.v_ini, rowD, D.cells, D.one, natF]
  · intro b1 b2 b3 b4 b5 b6 a1 a2 a3 a4 a5 a6
    simp only at b1 b2 b3 b4 b5 b6 a1 a2 a3 a4 a5 a6
    simp [k101, Env.v_ini, rowD, D.cells, D.one, natF, b2, b3, b4, b6, a1, a2, a3, a4, a5, a6]
def loSum (l : List Rw) : Int := (l.map fun r => (natF r).lo).sum
theorem loSum_snoc (l : List Rw) (r : Rw) : loSum (l ++ [r]) = loSum l + (natF r).lo := by simp [loSum]
theorem lo_bound (r : Rw) (hv : (natF r).valid = true) : 0 ≤ (natF r).lo ∧ (natF r).lo ≤ 1000 := by
  unfold natF at hv ⊢
  repeat' split
  all_goals simp_all [inB]
  all_goals omega
theorem loSum_bound : ∀ (l : List Rw), okAll l = true → 0 ≤ loSum l ∧ loSum l ≤ 1000 * l.length
  | [], _ => by simp [loSum]
  | r :: l, h => by
    simp only [okAll, List.all_cons, Bool.and_eq_true] at h
    have h1 := lo_bound r h.1
    have h2 := loSum_bound l h.2
    have e : loSum (r :: l) = (natF r).lo + loSum l := by simp [loSum]
    rw [e, List.length_cons]
    omega
/-- The document's years of rows. -/
def yearsF (l : List Rw) : Int × Int × Int := if (natsF l).2 = 0 then (loSum l, hiSum l, 0) else (0, 0, (natsF l).2)
def YI (l : List Rw) (k : Nat) (s : St) : Prop := ∃ (x : Env 41) (h : Heap) (i : Nat), s = ⟨x.l, h, []⟩ ∧ i + k = l.length ∧ x.v 0 = rowsD l ∧ x.v 7 = D.int i ∧ x.v 5 = D.int (loSum (l.take i)) ∧ x.v 6 = D.int (hiSum (l.take i)) ∧ okAll (l.take i) = true
def YQ (l : List Rw) (x : Ex) (s : St) : Prop :=
  (x = .exit 0 ∧ YI l 0 s) ∨ (x = .ret ∧ okAll l = false ∧ ∃ (x : Env 41) (h : Heap), s = ⟨x.l, h, []⟩ ∧ x.v 2 = D.int 0 ∧ x.v 3 = D.int 0 ∧ x.v 4 = D.int 10)
set_option maxHeartbeats 1000000 in
theorem years_round (l : List Rw) (hl : l.length ≤ 400) : ∀ n, 3 ≤ n → ∀ k s, YI l k s → Res (k77l0.ev ⟨pg, 41, none⟩ (rc pg n) s) (Rnd (YI l) (YQ l) k) := by
  rintro n hn k s ⟨x, h, i, rfl, hik, v0, v7, v5, v6, hv⟩
  simp only [rowsD] at v0
  by_cases hlt : i < l.length
  · obtain ⟨r, hr⟩ : ∃ r, l[i] = r := ⟨l[i], rfl⟩
    have hb := hiSum_bound _ hv
    have hc := loSum_bound _ hv
    rw [List.length_take] at hb hc
    have j1 := fun h => call_of (h := h) (pg := pg) (f := 99) rfl (row_canon r) (@rrow_run n (by omega) r)
    have j2 := fun h => call_of (h := h) (pg := pg) (f := 100) rfl (row_canon r) (@least_run n (by omega) r)
    have j3 := fun h => call_of (h := h) (pg := pg) (f := 101) rfl (row_canon r) (@most_run n (by omega) r)
    simp only [rowD] at j1 j2 j3
    have htake : l.take (i + 1) = l.take i ++ [r] := by rw [List.take_add_one, List.getElem?_eq_getElem hlt, hr]; rfl
    have hw1 : IntKind.i64.wrap ((i : Int) + 1) = (i : Int) + 1 := wrap_i64 (by omega) (by omega)
    by_cases hval : (natF r).valid = true
    · have hbr := hi_bound r hval
      have hcr := lo_bound r hval
      have hw2 : IntKind.i64.wrap (hiSum (l.take i) + (natF r).hi) = hiSum (l.take (i + 1)) := by rw [htake, hiSum_snoc]; exact wrap_i64 (by omega) (by omega)
      have hw3 : IntKind.i64.wrap (loSum (l.take i) + (natF r).lo) = loSum (l.take (i + 1)) := by rw [htake, loSum_snoc]; exact wrap_i64 (by omega) (by omega)
      simp [k77l0, v0, v7, v5, v6, hlt, hr, rowD, D.cells, j1, j2, j3, rowErr, hval, hw1, hw2, hw3]
      exact ⟨k - 1, by omega, _, _, i + 1, rfl, by omega, by simp [v0, rowsD], by simp, by simp, by simp, by rw [htake, okAll_snoc, hv, hval]; rfl⟩
    · simp [k77l0, v0, v7, hlt, hr, rowD, D.cells, j1, rowErr, hval]
      refine .inr ⟨rfl, ?_, _, _, rfl, by simp, by simp, by simp⟩
      unfold okAll
      rw [List.all_eq_false]
      exact ⟨r, by rw [← hr]; exact List.getElem_mem hlt, hval⟩
  · simp [k77l0, v0, v7, hlt]
    have hi : i = l.length := by omega
    exact .inl ⟨rfl, _, _, i, rfl, by omega, by simp [v0, rowsD], by simp [v7], by simp [v5], by simp [v6], hv⟩
end Go.Proofs.YtomiigdpggeacaaDoor
/- The document's own answers: years, and whether a sheet is valid. -/
namespace Go.Proofs.YtomiigdpggeacaaDoor
open Go Go.Em
set_option maxRecDepth 100000
theorem years_run (l : List Rw) {n : Nat} (hn : l.length + 10 ≤ n) : pureCall (rc pg n) 77 [rowsD l] = some (.ret (.tup [D.int (yearsF l).1, D.int (yearsF l).2.1, D.int (yearsF l).2.2])) := by
  obtain ⟨m, rfl, e⟩ := body (pg := pg) (f := 77) (args := [rowsD l]) (show 0 < n by omega) rfl rfl
  rw [e]
  by_cases hlen : 400 < l.length
  · have hlen' : (400 : Int) < l.length := by omega
    simp [k77, Env.v_ini, rowsD, hlen', yearsF, natsF, hlen]
  · have hlen' : ¬ (400 : Int) < l.length := by omega
    simp [k77, Env.v_ini, rowsD, hlen', ev_loop]
    refine Res.endsAfter (P := YQ l) (lp_rule 3 (YI l) (YQ l) (years_round l (by omega)) l.length m _ (by omega)
      ⟨_, _, 0, rfl, by omega, by simp [Env.v_ini, rowsD], by simp, by simp [loSum], by simp [hiSum], rfl⟩) ?_
    rintro x s (⟨rfl, x, h, i, rfl, hi, v0, v7, v5, v6, hv⟩ | ⟨rfl, hbad, x, h, rfl, v2, v3, v4⟩)
    · obtain rfl : i = l.length := by omega
      rw [List.take_length] at v5 v6 hv
      by_cases hs : 100000 < hiSum l
      · simp [v6, hs, hv, yearsF, natsF, hlen]
      · simp [v5, v6, hs, hv, yearsF, natsF, hlen]
    · simp [v2, v3, v4, hbad, yearsF, natsF, hlen]
/-- The document's order of marks: their numbers rise. -/
def ordN (last : Int) : List Rw → Bool
  | [] => true
  | r :: l => if r.k = 1 then (if r.n ≤ last then false else ordN r.n l) else ordN last l
/-- It is the order of the marks themselves. -/
theorem ord_same (c : Int) (hc : 0 ≤ c ∧ c ≤ 31) : ∀ (l : List Rw) (last : Int), okAll l = true → -1 ≤ last → last ≤ 63 → ordF c (if last = -1 then -1 else 64 * c + last + 1) l = ordN last l
  | [], _, _, _, _ => rfl
  | r :: l, last, hv, h1, h2 => by
    simp only [okAll, List.all_cons, Bool.and_eq_true] at hv
    have ih := fun last => ord_same c hc l last hv.2
    by_cases hk : r.k = 1
    · have hr : 0 ≤ r.n ∧ r.n ≤ 63 := by
        have := hv.1
        simp [natF, hk, inB] at this
        omega
      have hm : markF c r.n = 64 * c + r.n + 1 := by unfold markF; rw [if_pos ⟨hc, hr⟩]
      have i2 := ih r.n (by omega) (by omega)
      rw [if_neg (by omega)] at i2
      simp only [ordF, ordN, hk, if_true, hm]
      by_cases hle : r.n ≤ last
      · rw [if_pos hle, if_pos (by split <;> omega)]
      · rw [if_neg hle, if_neg (by split <;> omega), i2]
    · simp only [ordF, ordN, hk, if_false]
      exact ih last h1 h2
def RI (sc : List D) (l : List Rw) (k : Nat) (s : St) : Prop := ∃ (x : Env 62) (h : Heap) (i : Nat) (last : Int), s = ⟨x.l, h, []⟩ ∧ i + k = l.length ∧ h.get 1 = some (.cells 25 sc) ∧ x.v 1 = .ptr 1 0 ∧ x.v 7 = D.int i ∧ x.v 6 = D.int last ∧ ordN (-1) l = ordN last (l.drop i)
def RQ (l : List Rw) (x : Ex) (s : St) : Prop :=
  (x = .exit 0 ∧ ordN (-1) l = true ∧ ∃ (x : Env 62) (h : Heap), s = ⟨x.l, h, []⟩) ∨ (x = .ret ∧ ordN (-1) l = false ∧ ∃ (x : Env 62) (h : Heap), s = ⟨x.l, h, []⟩ ∧ x.v 2 = D.int 15)
set_option maxHeartbeats 1000000 in
theorem rcheck_round (i0 r0 c : Int) (l : List Rw) (hl : l.length ≤ 400) : ∀ n, 3 ≤ n → ∀ k s, RI (sheetC i0 r0 c l) l k s → Res (k45l0.ev ⟨pg, 62, none⟩ (rc pg n) s) (Rnd (RI (sheetC i0 r0 c l) l) (RQ l) k) := by
  rintro n hn k s ⟨x, h, i, last, rfl, hik, hg, v1, v7, v6, ho⟩
  simp only [sheetC, rowsD] at hg
  by_cases hlt : i < l.length
  · obtain ⟨r, hr⟩ : ∃ r, l[i] = r := ⟨l[i], rfl⟩
    have hd : l.drop i = r :: l.drop (i + 1) := by rw [List.drop_eq_getElem_cons hlt, hr]
    have hw1 : IntKind.i64.wrap ((i : Int) + 1) = (i : Int) + 1 := wrap_i64 (by omega) (by omega)
    rw [hd] at ho
    by_cases hk1 : r.k = 1
    · have hk1' : (r.k == 1) = true := by simp [hk1]
      by_cases hle : r.n ≤ last
      · simp [k45l0, v1, v7, v6, hg, hlt, hr, rowD, D.cells, hk1', hle]
        exact .inr ⟨rfl, by rw [ho]; simp [ordN, hk1, hle], _, _, rfl, by simp⟩
      · simp [k45l0, v1, v7, v6, hg, hlt, hr, rowD, D.cells, hk1', hle, hw1]
        exact ⟨k - 1, by omega, _, _, i + 1, r.n, rfl, by omega, by simp [hg, sheetC, rowsD], by simp [v1], by simp, by simp, by rw [ho]; simp [ordN, hk1, hle]⟩
    · have hk1' : (r.k == 1) = false := by simp [hk1]
      simp [k45l0, v1, v7, hg, hlt, hr, rowD, D.cells, hk1', hw1]
      exact ⟨k - 1, by omega, _, _, i + 1, last, rfl, by omega, by simp [hg, sheetC, rowsD], by simp [v1], by simp, by simp [v6], by rw [ho]; simp [ordN, hk1]⟩
  · simp [k45l0, v1, v7, hg, hlt]
    have hi : i = l.length := by omega
    rw [hi, List.drop_length] at ho
    exact .inl ⟨rfl, ho, _, _, rfl⟩
end Go.Proofs.YtomiigdpggeacaaDoor
/- The document's own answers: whether a sheet is valid; its marks and places. -/
namespace Go.Proofs.YtomiigdpggeacaaDoor
open Go Go.Em
set_option maxRecDepth 100000
theorem ok_of {l : List Rw} (h : (natsF l).2 = 0) : okAll l = true := by
  unfold natsF at h
  split at h
  · simp at h
  · split at h
    · simp at h
    · rename_i h1; simpa using h1
theorem chk_ord {i r c : Int} {l : List Rw} (h1 : inB i 1 99999 = true) (h2 : inB r 1 99 = true) (h3 : inB c 0 31 = true) (h4 : (natsF l).2 = 0) : chkF i r c l = if ordN (-1) l = true then 0 else 15 := by
  have hc : 0 ≤ c ∧ c ≤ 31 := by simpa [inB] using h3
  have := ord_same c hc l (-1) (ok_of h4) (by omega) (by omega)
  simp only [if_true] at this
  simp [chkF, h1, h2, h3, h4, this]
set_option maxHeartbeats 1000000 in
theorem rcheck_run (i r c : Int) (l : List Rw) {n : Nat} (hn : l.length + 20 ≤ n) : pureCall (rc pg n) 45 [D.agg (sheetC i r c l)] = some (.ret (D.int (chkF i r c l))) := by
  obtain ⟨m, rfl, e⟩ := body (pg := pg) (f := 45) (args := [D.agg (sheetC i r c l)]) (show 0 < n by omega) rfl rfl
  rw [e]
  have hw := fun a lo hi h => call_of (h := h) (pg := pg) (f := 76) rfl rfl (@rin_run m (by omega) a lo hi)
  have hy := fun h => call_of (h := h) (pg := pg) (f := 77) rfl (rows_canon l) (@years_run l m (by omega))
  simp only [rowsD] at hy
  have hy2 : (yearsF l).2.2 = (natsF l).2 := by unfold yearsF; split <;> simp_all
  rw [hy2] at hy
  by_cases h1 : inB i 1 99999 = true
  · by_cases h2 : inB r 1 99 = true
    · by_cases h3 : inB c 0 31 = true
      · by_cases h4 : (natsF l).2 = 0
        · simp [k45, Env.v_ini, sheetC, rowsD, D.cells, D.one, hw, h1, h2, h3, hy, h4, ev_loop]
          refine Res.endsAfter (P := RQ l) (lp_rule 3 (RI (sheetC i r c l) l) (RQ l) (rcheck_round i r c l (len_of_ok h4)) l.length m _ (by omega)
            ⟨_, _, 0, -1, rfl, by omega, by simp [sheetC, rowsD], by simp, by simp, by simp, rfl⟩) ?_
          rintro x s (⟨rfl, ho, x, h, rfl⟩ | ⟨rfl, ho, x, h, rfl, v2⟩)
          · simp [chk_ord h1 h2 h3 h4, ho]
          · simp [chk_ord h1 h2 h3 h4, ho, v2]
        · have h4' : ((natsF l).2 != 0) = true := by simpa using h4
          simp [k45, Env.v_ini, sheetC, rowsD, D.cells, D.one, hw, h1, h2, h3, hy, h4', h4, chkF]
      · simp [k45, Env.v_ini, sheetC, rowsD, D.cells, D.one, hw, h1, h2, h3, chkF]
    · simp [k45, Env.v_ini, sheetC, rowsD, D.cells, D.one, hw, h1, h2, chkF]
  · simp [k45, Env.v_ini, sheetC, rowsD, D.cells, D.one, hw, h1, chkF]
theorem rmark_run {n : Nat} (hn : 2 ≤ n) (a b : Int) : pureCall (rc pg n) 106 [D.int a, D.int b] = some (.ret (D.int (markF a b))) := by
  obtain ⟨m, rfl, e⟩ := body (pg := pg) (f := 106) (args := [D.int a, D.int b]) (show 0 < n by omega) rfl rfl
  rw [e]
  have hw := fun a lo hi h => call_of (h := h) (pg := pg) (f := 76) rfl rfl (@rin_run m (by omega) a lo hi)
  by_cases h1 : 0 ≤ a <;> by_cases h2 : a ≤ 31 <;> by_cases h3 : 0 ≤ b <;> by_cases h4 : b ≤ 63 <;> simp [k106, Env.v_ini, hw, inB, h1, h2, h3, h4, markF]
  rw [wrap_i64 (n := 64 * a) (by omega) (by omega), wrap_i64 (n := 64 * a + b) (by omega) (by omega), wrap_i64 (by omega) (by omega)]
theorem rplace_run {n : Nat} (hn : 2 ≤ n) (a : Int) : pureCall (rc pg n) 104 [D.int a] = some (.ret (.tup [D.int (placeF a).1, D.int (placeF a).2])) := by
  obtain ⟨m, rfl, e⟩ := body (pg := pg) (f := 104) (args := [D.int a]) (show 0 < n by omega) rfl rfl
  rw [e]
  have hw := fun a lo hi h => call_of (h := h) (pg := pg) (f := 76) rfl rfl (@rin_run m (by omega) a lo hi)
  by_cases h1 : 1 ≤ a <;> by_cases h2 : a ≤ 2048 <;> simp [k104, Env.v_ini, hw, inB, h1, h2, placeF, bin_quo, bin_rem]
  rw [wrap_i64 (n := a - 1) (by omega) (by omega), Int.tdiv_eq_ediv_of_nonneg (by omega), Int.tmod_eq_emod_of_nonneg (by omega), wrap_i64 (by omega) (by omega)]
  exact ⟨rfl, rfl⟩
/-- The marks of rows, from a mark on. -/
def marksF (c : Int) (l : List Rw) : List Int := (l.filter fun r => r.k == 1).map fun r => markF c r.n
theorem marks_snoc (c : Int) (l : List Rw) (r : Rw) : marksF c (l ++ [r]) = marksF c l ++ (if r.k = 1 then [markF c r.n] else []) := by
  unfold marksF
  rw [List.filter_append, List.map_append]
  by_cases h : r.k = 1 <;> simp [h]
theorem marks_len (c : Int) (l : List Rw) : (marksF c l).length ≤ l.length := by
  unfold marksF; rw [List.length_map]; exact List.length_filter_le _ _
/-- A list of numbers that grows by append. -/
def Gl (h : Heap) (d : D) (l : List Int) : Prop := (l = [] ∧ d = .val (.slice none 0 0)) ∨ ∃ k, d = .slr k 0 l.length 1 none ∧ h.get k = some (.cells 3 (l.map D.int)) ∧ k < h.next ∧ 1 < k
end Go.Proofs.YtomiigdpggeacaaDoor
