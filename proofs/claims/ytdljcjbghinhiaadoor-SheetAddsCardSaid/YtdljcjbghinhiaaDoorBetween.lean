/- Whatever sheet and numbers it is called with, the code of SheetBetween returns true. -/
import Derived.Test.YtdljcjbghinhiaaDoorBtw
import Derived.Test.YtdljcjbghinhiaaDoorStep
import Derived.Test.YtdljcjbghinhiaaDoorBounds
namespace Go.Proofs.YtdljcjbghinhiaaDoor
open Go Go.Em
set_option maxRecDepth 100000
theorem trimmed_run (i r c : Int) (l : List Rw) {n : Nat} (hn : 5 ≤ n) : pureCall (rc pg n) 14 [D.agg (sheetC i r c l)] = some (.ret (.agg (sheetC i r c (l.take 60)))) := by
  obtain ⟨m, rfl, e⟩ := body (pg := pg) (f := 14) (args := [D.agg (sheetC i r c l)]) (show 0 < n by omega) rfl rfl
  rw [e]
  have a1 := fun h => call_of (h := h) (pg := pg) (f := 9) rfl (rows_canon l) (@cut_run l m (by omega))
  have hcan : D.canonL ((l.take 60).map rowD) = true := canonL_map rowD (fun _ => rfl) _
  simp only [rowsD] at a1
  simp [k14, Env.v_ini, sheetC, rowsD, D.cells, D.one, a1]
  rw [List.map_take] at hcan
  simp [each_canon, hcan]
set_option maxHeartbeats 16000000 in
theorem between_law (si sr sc : Int) (rows : List Rw) (n0 n1 n2 : Int) {f : Nat} (hn : 5000 ≤ f) : pureCall (rc pg f) 4 [.agg (sheetC si sr sc rows), .agg [D.int n0, D.int n1, D.int n2]] = some (.ret (D.bool true)) := by
  obtain ⟨m, hm, e⟩ := body (pg := pg) (f := 4) (args := [.agg (sheetC si sr sc rows), .agg [D.int n0, D.int n1, D.int n2]]) (show 0 < f by omega) rfl rfl
  rw [e]
  have hs := @sane_call m (by omega)
  have a1 := fun h => call_of (h := h) (pg := pg) (f := 14) rfl (sheet_canon si sr sc rows) (@trimmed_run si sr sc rows m (by omega))
  obtain ⟨l, hl⟩ : ∃ l, l = rows.take 60 := ⟨_, rfl⟩
  have hl60 : l.length ≤ 60 := by rw [hl, List.length_take]; omega
  rw [← hl] at a1
  have a2 := fun h => call_of (h := h) (pg := pg) (f := 15) rfl (sheet_canon si sr sc l) (@marks_run si sr sc l m (by omega))
  have hcn : ∀ a b : Int, D.canonL [D.agg (sheetC si sr sc l), D.int a, D.int b] = true := fun a b => by simp [sheetC, rowsD, canonL_map rowD (fun _ => rfl) l]
  have hcr : D.canonL (l.map rowD) = true := canonL_map rowD (fun _ => rfl) l
  have hb := fun a b => @between_run si sr sc a b l m (by omega)
  have s1 : pg.sh 16 = false := rfl
  obtain ⟨M, hM⟩ : ∃ M, M = shMarks si sr sc l := ⟨_, rfl⟩
  rw [← hM] at a2
  simp only [sheetC, rowsD] at a1 a2
  by_cases h0 : M.length = 0
  · have hMn : M = [] := List.eq_nil_of_length_eq_zero h0
    subst hMn
    have hne := no_marks hM.symm 1 1
    have b1 := fun h => call_of (h := h) (pg := pg) (f := 16) rfl (hcn 1 1) (hb 1 1)
    have hne' : ((btwF si sr sc l 1 1).2 != 0) = true := by simpa using hne
    simp only [sheetC, rowsD, spD, spC] at b1
    simp [k4, Env.v_ini, sheetC, rowsD, D.cells, D.one, hs, a1, a2, b1, hne', zerosD, List.range_succ]
  · have hchk : chkF si sr sc l = 0 := by
      apply Decidable.byContradiction; intro h
      apply h0; rw [hM]; unfold shMarks; rw [if_neg h]; rfl
    have hMF : M = marksF sc l := by rw [hM]; unfold shMarks; rw [if_pos hchk]
    have hv := chk_ok hchk
    have hlenM : M.length ≤ 60 := by have := marks_len sc l; rw [hMF]; omega
    obtain ⟨i, hi⟩ : ∃ i : Nat, (i : Int) = n0 % M.length := ⟨(n0 % M.length).toNat, by have := Int.emod_nonneg n0 (show (M.length : Int) ≠ 0 by omega); omega⟩
    have hil : i < M.length := by have := Int.emod_lt_of_pos n0 (show (0 : Int) < M.length by omega); omega
    obtain ⟨j0, hj0⟩ : ∃ j : Nat, (j : Int) = n1 % ((M.length : Int) - i) := ⟨(n1 % ((M.length : Int) - i)).toNat, by have := Int.emod_nonneg n1 (show (M.length : Int) - i ≠ 0 by omega); omega⟩
    have hjl : i + j0 < M.length := by have := Int.emod_lt_of_pos n1 (show (0 : Int) < (M.length : Int) - i by omega); omega
    obtain ⟨j, hj⟩ : ∃ j, j = i + j0 := ⟨_, rfl⟩
    obtain ⟨k0, hk0⟩ : ∃ k : Nat, (k : Int) = n2 % ((M.length : Int) - j) := ⟨(n2 % ((M.length : Int) - j)).toNat, by have := Int.emod_nonneg n2 (show (M.length : Int) - j ≠ 0 by omega); omega⟩
    have hkl : j + k0 < M.length := by have := Int.emod_lt_of_pos n2 (show (0 : Int) < (M.length : Int) - j by omega); omega
    obtain ⟨k, hk⟩ : ∃ k, k = j + k0 := ⟨_, rfl⟩
    have q0 := fun h => call_of (h := h) (pg := pg) (f := 17) rfl rfl (@mod_run n0 M.length (by omega) (by omega) m (by omega))
    have q1 := fun h => call_of (h := h) (pg := pg) (f := 17) rfl rfl (@mod_run n1 ((M.length : Int) - i) (by omega) (by omega) m (by omega))
    have q2 := fun h => call_of (h := h) (pg := pg) (f := 17) rfl rfl (@mod_run n2 ((M.length : Int) - j) (by omega) (by omega) m (by omega))
    rw [← hi] at q0
    rw [← hj0] at q1
    rw [← hk0] at q2
    have w1 : IntKind.i64.wrap ((M.length : Int) - i) = (M.length : Int) - i := wrap_i64 (by omega) (by omega)
    have w2 : IntKind.i64.wrap ((i : Int) + j0) = (j : Int) := by rw [wrap_i64 (by omega) (by omega)]; omega
    have w3 : IntKind.i64.wrap ((M.length : Int) - j) = (M.length : Int) - j := wrap_i64 (by omega) (by omega)
    have w4 : IntKind.i64.wrap ((j : Int) + k0) = (k : Int) := by rw [wrap_i64 (by omega) (by omega)]; omega
    have hjl' : j < M.length := by omega
    have hkl' : k < M.length := by omega
    obtain ⟨A, hA⟩ : ∃ A, M[i] = A := ⟨_, rfl⟩
    obtain ⟨B, hB⟩ : ∃ B, M[j] = B := ⟨_, rfl⟩
    obtain ⟨C, hC⟩ : ∃ C, M[k] = C := ⟨_, rfl⟩
    obtain ⟨p, hp, ap⟩ := mark_place_of hchk i (by rw [← hMF]; exact hil)
    obtain ⟨q, hq, aq⟩ := mark_place_of hchk j (by rw [← hMF]; exact hjl')
    obtain ⟨t, ht, at'⟩ := mark_place_of hchk k (by rw [← hMF]; exact hkl')
    have hpq := place_le hchk (show i ≤ j by omega) (by rw [← hMF]; exact hjl') ap aq
    have hqt := place_le hchk (show j ≤ k by omega) (by rw [← hMF]; exact hkl') aq at'
    have eA : (marksF sc l)[i]'(by rw [← hMF]; exact hil) = A := by rw [← hA]; simp [hMF]
    have eB : (marksF sc l)[j]'(by rw [← hMF]; exact hjl') = B := by rw [← hB]; simp [hMF]
    have eC : (marksF sc l)[k]'(by rw [← hMF]; exact hkl') = C := by rw [← hC]; simp [hMF]
    rw [eA] at ap
    rw [eB] at aq
    rw [eC] at at'
    have bx := hb A B
    have byy := hb B C
    have bz := hb A C
    have br := hb C A
    rw [(btw_down hchk ap aq hpq).1] at bx
    rw [(btw_down hchk aq at' hqt).1] at byy
    rw [(btw_down hchk ap at' (by omega)).1] at bz
    rw [(btw_down hchk ap at' (by omega)).2] at br
    obtain ⟨e1, e2⟩ := mid_sum l hpq hqt
    rw [e1, e2] at bz br
    have m1 := mid_bound hv (by omega) p q
    have m2 := mid_bound hv (by omega) q t
    obtain ⟨L1, hL1⟩ : ∃ x, x = midS loSum l p q := ⟨_, rfl⟩
    obtain ⟨H1, hH1⟩ : ∃ x, x = midS hiSum l p q := ⟨_, rfl⟩
    obtain ⟨L2, hL2⟩ : ∃ x, x = midS loSum l q t := ⟨_, rfl⟩
    obtain ⟨H2, hH2⟩ : ∃ x, x = midS hiSum l q t := ⟨_, rfl⟩
    rw [← hL1, ← hH1] at m1 bx
    rw [← hL2, ← hH2] at m2 byy
    rw [← hL1, ← hH1, ← hL2, ← hH2] at bz br
    have w5 : IntKind.i64.wrap (L1 + L2) = L1 + L2 := wrap_i64 (by omega) (by omega)
    have w6 : IntKind.i64.wrap (H1 + H2) = H1 + H2 := wrap_i64 (by omega) (by omega)
    have w7 : IntKind.i64.wrap (-(H1 + H2)) = -(H1 + H2) := wrap_i64 (by omega) (by omega)
    have w8 : IntKind.i64.wrap (-(L1 + L2)) = -(L1 + L2) := wrap_i64 (by omega) (by omega)
    have hMne : M ≠ [] := by intro h; apply h0; rw [h]; rfl
    have h0' : ((M.length : Int) == 0) = false := by simp [hMne]
    simp only [sheetC, rowsD, spD, spC] at bx byy bz br
    simp [k4, Env.v_ini, sheetC, rowsD, D.cells, D.one, hs, a1, a2, h0', q0, q1, q2, w1, w2, w3, w4, w5, w6, w7, w8, hil, hjl', hkl', hA, hB, hC, bx, byy, bz, br, dcore_f, s1, hcr, zerosD, List.range_succ]
end Go.Proofs.YtdljcjbghinhiaaDoor
/- The part of a sheet that is cut out: what the program answers. -/
namespace Go.Proofs.YtdljcjbghinhiaaDoor
open Go Go.Em
set_option maxRecDepth 100000
def rowC (r : Rw) : List D := [D.int r.k, D.int r.n, D.int r.m]
theorem rowC_len (r : Rw) : (rowC r).length = 3 := rfl
theorem rowC_canon (r : Rw) : D.canonL (rowC r) = true := rfl
theorem rows_cells : ∀ l : List Rw, (l.map rowD).flatMap D.cells = l.flatMap rowC
  | [] => rfl
  | r :: l => by rw [List.map_cons, List.flatMap_cons, List.flatMap_cons, rows_cells l]; rfl
theorem rows_one (l : List Rw) : (l.flatMap rowC).all D.one = true := by
  rw [List.all_eq_true]
  intro d hd
  obtain ⟨r, _, h⟩ := List.mem_flatMap.1 hd
  simp [rowC] at h
  rcases h with rfl | rfl | rfl <;> rfl
theorem rows_nil {l : List Rw} (h : l ≠ []) : nilOf .slice (D.sl false (l.map rowD)) = some false := by
  cases l with
  | nil => exact absurd rfl h
  | cons r l => rfl
theorem appS_zero {t et sz bytes : Nat} {h : Heap} {m : Nat} {news cs : List D} {k : Nat} {ty : TypeId} (h0 : 0 < m) (hr : m * bytes ≤ room) (hm : m ≤ maxLen) :
    appS t et sz bytes h m news k 0 0 sz (some 0) (some (.cells ty cs)) = (h.alloc t (.cells et news)).map fun h => (.slr t 0 m sz none, h) := by
  unfold appS
  simp [hr, hm, show ¬ m = 0 by omega]
theorem clone_run (l : List Rw) (hl : l.length ≤ 400) (hne : l ≠ []) {n : Nat} (hn : 1 ≤ n) : pureCall (rc pg n) 44 [rowsD l] = some (.ret (rowsD l)) := by
  obtain ⟨m, rfl, e⟩ := body (pg := pg) (f := 44) (args := [rowsD l]) (show 0 < n by omega) rfl rfl
  rw [e]
  have h1 := rows_nil hne
  have hn0 : nilOf .slice (.val (.slice none 0 0)) = some true := rfl
  have h2 := rows_cells l
  have h3 := rows_one l
  have hlen : l.length ≠ 0 := fun h => hne (List.eq_nil_of_length_eq_zero h)
  have z := fun t hh news k ty cs => appS_zero (t := t) (et := 80) (sz := 3) (bytes := 24) (h := hh) (m := l.length) (news := news) (k := k) (ty := ty) (cs := cs) (by omega) (by unfold room; omega) (by unfold maxLen; omega)
  have hl3 : (l.flatMap rowC).length = l.length * 3 := length_flatMap _ rowC_len l
  have hcan : D.canonL (l.flatMap rowC) = true := canonL_flatMap _ rowC_canon l
  have hch : chunk 3 l.length (l.flatMap rowC) = l.map rowD := chunk_flatMap _ (by decide) rowC_len l _ rfl
  have htk : (l.flatMap rowC).take (l.length * 3) = l.flatMap rowC := List.take_of_length_le (by omega)
  have hall : (l.map rowD).all (fun e => e.cells.length == 3) = true := by simp [rowD, D.cells]
  have hcan' := fun h => each_canon h 22 _ hcan
  simp [-nilOf, k44, Env.v_ini, rowsD, h1, hn0, hall, h2, h3, hlen, zerosD, apK_some, z, htk, hch, hl3, hcan']
/-- The rows from the one of a mark to the one of another mark. -/
def partF (l : List Rw) (p q : Nat) : List Rw := (l.drop p).take (q + 1 - p)
theorem cutsh_run (i r c a b : Int) (l : List Rw) (h0 : chkF i r c l = 0) {p q : Nat} (ha : atF c a l = (p : Int)) (hb : atF c b l = (q : Int)) (hpq : p ≤ q) (hab : ¬ b < a) {n : Nat} (hn : l.length + 500 ≤ n) :
    pureCall (rc pg n) 22 [D.agg (sheetC i r c l), D.int a, D.int b] = some (.ret (.tup [.agg (sheetC i r c (partF l p q)), D.int 0])) := by
  obtain ⟨m, rfl, e⟩ := body (pg := pg) (f := 22) (args := [D.agg (sheetC i r c l), D.int a, D.int b]) (show 0 < n by omega) rfl rfl
  rw [e]
  have hl := chk_len h0
  have hcn : D.canonL [D.agg (sheetC i r c l), D.int a, D.int b] = true := by simp [sheetC, rowsD, canonL_map rowD (fun _ => rfl) l]
  have he := fun h => call_of (h := h) (pg := pg) (f := 41) rfl hcn (@ends_run i r c a b l m (by omega))
  have e0 : endsF i r c l a b = 0 := by
    unfold endsF
    rw [if_neg (by simpa using h0), ha, hb, if_neg (by omega)]
  rw [e0] at he
  have r1 := @rowOf_run i r c a l hl m (by omega)
  have r2 := @rowOf_run i r c b l hl m (by omega)
  rw [ha] at r1
  rw [hb] at r2
  have hql : q < l.length := by
    rcases at_ge c b l with h | ⟨j, h1, h2⟩
    · omega
    · omega
  have hpl : (partF l p q).length ≤ 400 := by unfold partF; simp; omega
  have hpn : partF l p q ≠ [] := by
    intro h
    have : (partF l p q).length = 0 := by rw [h]; rfl
    unfold partF at this
    simp at this; omega
  have hc := @clone_run (partF l p q) hpl hpn m (by omega)
  have s1 : pg.sh 45 = false := rfl
  have s2 : pg.sh 44 = false := rfl
  have hcr : D.canonL (l.map rowD) = true := canonL_map rowD (fun _ => rfl) l
  have hcp : D.canonL ((partF l p q).map rowD) = true := canonL_map rowD (fun _ => rfl) _
  have hmp : List.take (q + 1 - p) (List.drop p (l.map rowD)) = (partF l p q).map rowD := by unfold partF; rw [List.map_take, List.map_drop]
  have hw : IntKind.i64.wrap ((q : Int) + 1) = (q : Int) + 1 := wrap_i64 (by omega) (by omega)
  have hhead := rows_head l
  have t1 : (p : Int) ≤ (q : Int) + 1 := by omega
  have t2 : ((q : Int) + 1).toNat = q + 1 := by omega
  have t3 : (q : Int) + 1 ≤ l.length := by omega
  have hcp' := fun h n => each_canon h n _ hcp
  simp only [sheetC, rowsD] at he r1 r2 hc
  simp [k22, Env.v_ini, sheetC, rowsD, D.cells, D.one, he, hab, r1, r2, dcore_f, s1, s2, hcr, hw, hhead, t1, t2, t3, hmp, hcp, hc, hcp', zerosD, List.range_succ]
end Go.Proofs.YtdljcjbghinhiaaDoor
/- The part of a sheet that is cut out has the marks and spans that lie in it. -/
namespace Go.Proofs.YtdljcjbghinhiaaDoor
open Go Go.Em
set_option maxRecDepth 100000
theorem marksF_app (c : Int) (a b : List Rw) : marksF c (a ++ b) = marksF c a ++ marksF c b := by simp [marksF]
theorem split_at {l : List Rw} {p : Nat} (hp : p < l.length) : l = l.take p ++ l[p] :: l.drop (p + 1) := by
  rw [← List.drop_eq_getElem_cons hp, List.take_append_drop]
/-- How many marks stand above the i-th one. -/
theorem marks_above {i r c : Int} {l : List Rw} (h0 : chkF i r c l = 0) {j p : Nat} (hj : j < (marksF c l).length) (hp : p < l.length) (hk : l[p].k = 1) (hm : markF c l[p].n = (marksF c l)[j]) : (marksF c (l.take p)).length = j := by
  obtain ⟨_, ho⟩ := chk_core h0
  obtain ⟨hr, _⟩ := marks_rise c l _ ho
  have e : marksF c l = marksF c (l.take p) ++ markF c l[p].n :: marksF c (l.drop (p + 1)) := by
    conv => lhs; rw [split_at hp, marksF_app, marksF_cons, if_pos hk]
  have hlt : (marksF c (l.take p)).length < (marksF c l).length := by rw [e]; simp
  have hg : (marksF c l)[(marksF c (l.take p)).length] = markF c l[p].n := by
    have : (marksF c l)[(marksF c (l.take p)).length]? = some (markF c l[p].n) := by
      rw [e, List.getElem?_append_right (Nat.le_refl _), Nat.sub_self]; rfl
    rw [List.getElem?_eq_getElem hlt] at this
    exact Option.some.inj this
  rcases Nat.lt_trichotomy (marksF c (l.take p)).length j with h | h | h
  · have := List.pairwise_iff_getElem.1 hr _ _ hlt hj h
    rw [hg, hm] at this; omega
  · exact h
  · have := List.pairwise_iff_getElem.1 hr _ _ hj hlt h
    rw [hg, hm] at this; omega
theorem ord_of (c : Int) : ∀ (l : List Rw) (A : Int), (marksF c l).Pairwise (· < ·) → (∀ m ∈ marksF c l, A < m) → ordF c A l = true
  | [], _, _, _ => rfl
  | r :: l, A, h1, h2 => by
    unfold ordF
    rw [marksF_cons] at h1 h2
    by_cases hk : r.k = 1
    · rw [if_pos hk] at h1 h2 ⊢
      have := h2 _ (List.mem_cons_self ..)
      rw [if_neg (by omega)]
      obtain ⟨h3, h4⟩ := List.pairwise_cons.1 h1
      exact ord_of c l _ h4 h3
    · rw [if_neg hk] at h1 h2 ⊢
      exact ord_of c l A h1 h2
theorem chk_part {i r c : Int} {l : List Rw} (h0 : chkF i r c l = 0) (p n : Nat) : chkF i r c ((l.drop p).take n) = 0 := by
  obtain ⟨hc, ho⟩ := chk_core h0
  obtain ⟨hr, hg⟩ := marks_rise c l _ ho
  have hv := chk_ok h0
  have hl := chk_len h0
  have hn := chk_nats h0
  have e : l = l.take p ++ ((l.drop p).take n ++ (l.drop p).drop n) := by rw [List.take_append_drop, List.take_append_drop]
  have hm : marksF c l = marksF c (l.take p) ++ (marksF c ((l.drop p).take n) ++ marksF c ((l.drop p).drop n)) := by rw [← marksF_app, ← marksF_app, ← e]
  have hord : ordF c (-1) ((l.drop p).take n) = true := by
    refine ord_of c _ _ ?_ fun m hm' => hg m (by rw [hm]; simp [hm'])
    rw [hm] at hr
    exact (List.pairwise_append.1 (List.pairwise_append.1 hr).2.1).1
  have hv' : okAll ((l.drop p).take n) = true := by
    unfold okAll at hv ⊢
    rw [List.all_eq_true] at hv ⊢
    exact fun a ha => hv a (List.mem_of_mem_drop (List.mem_of_mem_take ha))
  have h3 : hiSum l ≤ 100000 := by
    unfold natsF at hn
    split at hn
    · simp at hn
    · split at hn
      · simp at hn
      · split at hn
        · simp at hn
        · omega
  have hs := hiSum_part hv p n
  have hn' : (natsF ((l.drop p).take n)).2 = 0 := by
    unfold natsF
    rw [if_neg (by simp; omega), if_neg (by rw [hv']; decide), if_neg (by omega)]
  unfold chkF at h0 ⊢
  split at h0
  · omega
  · rename_i h4
    rw [if_neg h4, if_neg (by simpa using hn'), if_pos hord]
theorem spF_split (c : Int) : ∀ (l : List Rw) (A x y : Int) (w : Rw) (t : List Rw), w.k = 1 → spF c A x y (l ++ w :: t) = spF c A x y (l ++ [w]) ++ spF c (markF c w.n) 0 0 t
  | [], A, x, y, w, t, hk => by
    simp only [List.nil_append, spF, hk, if_true]
    split <;> rfl
  | r :: l, A, x, y, w, t, hk => by
    simp only [List.cons_append, spF]
    split
    · split
      · exact spF_split c l _ _ _ w t hk
      · rw [spF_split c l _ _ _ w t hk]; rfl
    · exact spF_split c l _ _ _ w t hk
theorem spF_len (c : Int) (hc : 0 ≤ c ∧ c ≤ 31) : ∀ (l : List Rw) (A x y : Int), okAll l = true → (spF c A x y l).length = if A = -1 then (marksF c l).length - 1 else (marksF c l).length
  | [], A, _, _, _ => by simp [spF, marksF]
  | r :: l, A, x, y, hv => by
    simp only [okAll, List.all_cons, Bool.and_eq_true] at hv
    rw [marksF_cons]
    unfold spF
    by_cases hk : r.k = 1
    · have hg := mark_ge hc hv.1 hk
      have hm : markF c r.n ≠ -1 := by omega
      rw [if_pos hk, if_pos hk]
      have ih := spF_len c hc l (markF c r.n) 0 0 hv.2
      rw [if_neg hm] at ih
      by_cases hA : A = -1
      · rw [if_pos hA, if_pos hA, ih]; simp
      · rw [if_neg hA, if_neg hA, List.length_cons, ih]; simp
    · rw [if_neg hk, if_neg hk]
      exact spF_len c hc l A _ _ hv.2
theorem okAll_sub {l m : List Rw} (hv : okAll l = true) (h : ∀ r ∈ m, r ∈ l) : okAll m = true := by
  unfold okAll at hv ⊢
  rw [List.all_eq_true] at hv ⊢
  exact fun a ha => hv a (h a ha)
/-- The marks and the spans of a part. -/
theorem part_same {i r c : Int} {l : List Rw} (h0 : chkF i r c l = 0) {j k p q : Nat} (hjk : j ≤ k) (hk : k < (marksF c l).length) (ap : atF c ((marksF c l)[j]'(by omega)) l = (p : Int)) (aq : atF c (marksF c l)[k] l = (q : Int)) :
    marksF c (partF l p q) = ((marksF c l).drop j).take (k + 1 - j) ∧ spF c (-1) 0 0 (partF l p q) = ((spF c (-1) 0 0 l).drop j).take (k - j) := by
  obtain ⟨hc, ho⟩ := chk_core h0
  have hv := chk_ok h0
  obtain ⟨hp, hpk, hpm⟩ := at_row hc ap
  obtain ⟨hq, hqk, hqm⟩ := at_row hc aq
  have hpq := place_le h0 hjk hk ap aq
  have c1 := marks_above h0 (by omega) hp hpk hpm
  have c2 := marks_above h0 hk hq hqk hqm
  -- the rows: above, the part, below
  have hS : l = l.take p ++ (partF l p q ++ l.drop (q + 1)) := by
    unfold partF
    have : l.drop (q + 1) = (l.drop p).drop (q + 1 - p) := by rw [List.drop_drop, show p + (q + 1 - p) = q + 1 by omega]
    rw [this, List.take_append_drop, List.take_append_drop]
  have hT : l.take (q + 1) = l.take p ++ partF l p q := by
    unfold partF
    rw [← List.take_append_drop p (l.take (q + 1)), List.take_take, show min p (q + 1) = p by omega, List.drop_take]
  have hT2 : l.take (q + 1) = l.take q ++ [l[q]] := by rw [List.take_add_one, List.getElem?_eq_getElem hq]; rfl
  have hcount : (marksF c (l.take (q + 1))).length = k + 1 := by
    rw [hT2, marksF_app, List.length_append, c2, marksF_cons, if_pos hqk]; rfl
  have hlen' : (marksF c (partF l p q)).length = k + 1 - j := by
    rw [hT, marksF_app, List.length_append, c1] at hcount; omega
  constructor
  · have e : marksF c l = marksF c (l.take p) ++ (marksF c (partF l p q) ++ marksF c (l.drop (q + 1))) := by rw [← marksF_app, ← marksF_app, ← hS]
    rw [e, List.drop_left' c1, List.take_left' hlen']
  · -- spans
    have hpart : ∃ t, partF l p q = l[p] :: t := by
      unfold partF
      rw [List.drop_eq_getElem_cons hp, show q + 1 - p = (q - p) + 1 by omega, List.take_succ_cons]
      exact ⟨_, rfl⟩
    obtain ⟨t, ht⟩ := hpart
    have hm : markF c l[p].n ≠ -1 := by
      have := mark_ge hc (List.all_eq_true.1 hv _ (List.getElem_mem hp)) hpk
      omega
    have e1 : spF c (-1) 0 0 (partF l p q) = spF c (markF c l[p].n) 0 0 t := by
      rw [ht]; simp only [spF, hpk, if_true]
    have hS2 : l = l.take p ++ l[p] :: (t ++ l.drop (q + 1)) := by
      conv => lhs; rw [hS, ht]
      rfl
    have e2 : spF c (-1) 0 0 l = spF c (-1) 0 0 (l.take p ++ [l[p]]) ++ spF c (markF c l[p].n) 0 0 (t ++ l.drop (q + 1)) := by
      conv => lhs; rw [hS2]
      rw [spF_split c _ _ _ _ _ _ hpk]
    have hv1 : okAll (l.take p ++ [l[p]]) = true := okAll_sub hv fun r hr => by
      rcases List.mem_append.1 hr with h | h
      · exact List.mem_of_mem_take h
      · rw [List.mem_singleton.1 h]; exact List.getElem_mem hp
    have l1 : (spF c (-1) 0 0 (l.take p ++ [l[p]])).length = j := by
      rw [spF_len c hc _ _ _ _ hv1, if_pos rfl, marksF_app, List.length_append, c1, marksF_cons, if_pos hpk]
      simp [marksF]
    have hvt : okAll t = true := okAll_sub hv fun r hr => by
      have : r ∈ partF l p q := by rw [ht]; exact List.mem_cons_of_mem _ hr
      exact List.mem_of_mem_drop (List.mem_of_mem_take this)
    have l2 : (spF c (markF c l[p].n) 0 0 t).length = k - j := by
      rw [spF_len c hc _ _ _ _ hvt, if_neg hm]
      rw [ht, marksF_cons, if_pos hpk, List.length_cons] at hlen'
      omega
    rw [e1, e2, List.drop_left' l1]
    -- the part ends with a mark
    by_cases he : p = q
    · have : t = [] := by
        subst he
        have h1 : (partF l p p).length = 1 := by unfold partF; simp; omega
        rw [ht] at h1
        exact List.eq_nil_of_length_eq_zero (by simpa using h1)
      subst this
      have : k - j = 0 := by rw [← l2]; rfl
      rw [this]; rfl
    · have hlast : ∃ u, t = u ++ [l[q]] := by
        have h1 : partF l p q = partF l p (q - 1) ++ [l[q]] := by
          unfold partF
          rw [show q - 1 + 1 - p = q - p by omega, take_more l p q hq (by omega)]
        rw [ht] at h1
        have h2 : ∃ u, partF l p (q - 1) = l[p] :: u := by
          unfold partF
          rw [List.drop_eq_getElem_cons hp, show q - 1 + 1 - p = (q - 1 - p) + 1 by omega, List.take_succ_cons]
          exact ⟨_, rfl⟩
        obtain ⟨u, hu⟩ := h2
        rw [hu] at h1
        exact ⟨u, (List.cons.inj h1).2⟩
      obtain ⟨u, hu⟩ := hlast
      have e3 : spF c (markF c l[p].n) 0 0 (t ++ l.drop (q + 1)) = spF c (markF c l[p].n) 0 0 t ++ spF c (markF c l[q].n) 0 0 (l.drop (q + 1)) := by
        rw [hu, List.append_assoc, List.singleton_append, spF_split c _ _ _ _ _ _ hqk]
      rw [e3, List.take_left' l2]
end Go.Proofs.YtdljcjbghinhiaaDoor
/- Whatever sheet and numbers it is called with, the code of SheetParts returns true. -/
namespace Go.Proofs.YtdljcjbghinhiaaDoor
open Go Go.Em
set_option maxRecDepth 100000
theorem sps_head (l : List Sp) : headOk 4 (l.map spD) = true := by cases l <;> rfl
set_option maxHeartbeats 16000000 in
theorem parts_law (si sr sc : Int) (rows : List Rw) (n0 n1 : Int) {f : Nat} (hn : 5000 ≤ f) : pureCall (rc pg f) 6 [.agg (sheetC si sr sc rows), .agg [D.int n0, D.int n1]] = some (.ret (D.bool true)) := by
  obtain ⟨m, hm, e⟩ := body (pg := pg) (f := 6) (args := [.agg (sheetC si sr sc rows), .agg [D.int n0, D.int n1]]) (show 0 < f by omega) rfl rfl
  rw [e]
  have hs := @sane_call m (by omega)
  have a1 := fun h => call_of (h := h) (pg := pg) (f := 14) rfl (sheet_canon si sr sc rows) (@trimmed_run si sr sc rows m (by omega))
  obtain ⟨l, hl⟩ : ∃ l, l = rows.take 60 := ⟨_, rfl⟩
  have hl60 : l.length ≤ 60 := by rw [hl, List.length_take]; omega
  rw [← hl] at a1
  have a2 := fun h => call_of (h := h) (pg := pg) (f := 15) rfl (sheet_canon si sr sc l) (@marks_run si sr sc l m (by omega))
  have a5 := fun h => call_of (h := h) (pg := pg) (f := 25) rfl (sheet_canon si sr sc l) (@spans_run si sr sc l m (by omega))
  have hcr : D.canonL (l.map rowD) = true := canonL_map rowD (fun _ => rfl) l
  obtain ⟨M, hM⟩ : ∃ M, M = shMarks si sr sc l := ⟨_, rfl⟩
  rw [← hM] at a2
  simp only [sheetC, rowsD] at a1 a2
  by_cases h0 : M.length = 0
  · have hMn : M = [] := List.eq_nil_of_length_eq_zero h0
    subst hMn
    simp [k6, Env.v_ini, sheetC, rowsD, D.cells, D.one, hs, a1, a2]
  · have hchk : chkF si sr sc l = 0 := by
      apply Decidable.byContradiction; intro h
      apply h0; rw [hM]; unfold shMarks; rw [if_neg h]; rfl
    have hMF : M = marksF sc l := by rw [hM]; unfold shMarks; rw [if_pos hchk]
    have hv := chk_ok hchk
    obtain ⟨hc, ho⟩ := chk_core hchk
    have hlenM : M.length ≤ 60 := by have := marks_len sc l; rw [hMF]; omega
    obtain ⟨i, hi⟩ : ∃ i : Nat, (i : Int) = n0 % M.length := ⟨(n0 % M.length).toNat, by have := Int.emod_nonneg n0 (show (M.length : Int) ≠ 0 by omega); omega⟩
    have hil : i < M.length := by have := Int.emod_lt_of_pos n0 (show (0 : Int) < M.length by omega); omega
    obtain ⟨j0, hj0⟩ : ∃ j : Nat, (j : Int) = n1 % ((M.length : Int) - i) := ⟨(n1 % ((M.length : Int) - i)).toNat, by have := Int.emod_nonneg n1 (show (M.length : Int) - i ≠ 0 by omega); omega⟩
    have hjl : i + j0 < M.length := by have := Int.emod_lt_of_pos n1 (show (0 : Int) < (M.length : Int) - i by omega); omega
    obtain ⟨j, hj⟩ : ∃ j, j = i + j0 := ⟨_, rfl⟩
    have q0 := fun h => call_of (h := h) (pg := pg) (f := 17) rfl rfl (@mod_run n0 M.length (by omega) (by omega) m (by omega))
    have q1 := fun h => call_of (h := h) (pg := pg) (f := 17) rfl rfl (@mod_run n1 ((M.length : Int) - i) (by omega) (by omega) m (by omega))
    rw [← hi] at q0
    rw [← hj0] at q1
    have w1 : IntKind.i64.wrap ((M.length : Int) - i) = (M.length : Int) - i := wrap_i64 (by omega) (by omega)
    have w2 : IntKind.i64.wrap ((i : Int) + j0) = (j : Int) := by rw [wrap_i64 (by omega) (by omega)]; omega
    have w3 : IntKind.i64.wrap ((j : Int) + 1) = (j : Int) + 1 := wrap_i64 (by omega) (by omega)
    have w4 : IntKind.i64.wrap ((M.length : Int) - 1) = (M.length : Int) - 1 := wrap_i64 (by omega) (by omega)
    have hjl' : j < M.length := by omega
    obtain ⟨A, hA⟩ : ∃ A, M[i] = A := ⟨_, rfl⟩
    obtain ⟨B, hB⟩ : ∃ B, M[j] = B := ⟨_, rfl⟩
    obtain ⟨p, hp, ap⟩ := mark_place_of hchk i (by rw [← hMF]; exact hil)
    obtain ⟨q, hq, aq⟩ := mark_place_of hchk j (by rw [← hMF]; exact hjl')
    have hpq := place_le hchk (show i ≤ j by omega) (by rw [← hMF]; exact hjl') ap aq
    obtain ⟨es1, es2⟩ := part_same hchk (show i ≤ j by omega) (by rw [← hMF]; exact hjl') ap aq
    have eA : (marksF sc l)[i]'(by rw [← hMF]; exact hil) = A := by rw [← hA]; simp [hMF]
    have eB : (marksF sc l)[j]'(by rw [← hMF]; exact hjl') = B := by rw [← hB]; simp [hMF]
    have hAB : ¬ B < A := by
      rw [← eA, ← eB]
      rcases Nat.eq_or_lt_of_le (show i ≤ j by omega) with he | hlt
      · simp only [he]; omega
      · have := List.pairwise_iff_getElem.1 (marks_rise sc l _ ho).1 i j (by rw [← hMF]; exact hil) (by rw [← hMF]; exact hjl') hlt
        omega
    rw [eA] at ap
    rw [eB] at aq
    have b1 := @cutsh_run si sr sc A B l hchk p q ap aq hpq hAB m (by omega)
    obtain ⟨L, hL⟩ : ∃ L, L = partF l p q := ⟨_, rfl⟩
    have hLl : L.length ≤ 60 := by rw [hL]; unfold partF; simp; omega
    have hchk2 : chkF si sr sc L = 0 := by rw [hL]; exact chk_part hchk p _
    rw [← hL] at b1 es1 es2
    have b2 := fun h => call_of (h := h) (pg := pg) (f := 23) rfl (sheet_canon si sr sc L) (@check_run si sr sc L m (by omega))
    rw [hchk2] at b2
    have b3 := @marks_run si sr sc L m (by omega)
    have b4 := @spans_run si sr sc L m (by omega)
    have eM2 : shMarks si sr sc L = (M.drop i).take (j + 1 - i) := by unfold shMarks; rw [if_pos hchk2, es1, hMF]
    have eS : shSpans si sr sc l = spF sc (-1) 0 0 l := by unfold shSpans; rw [if_pos hchk]
    obtain ⟨S, hS⟩ : ∃ S, S = spF sc (-1) 0 0 l := ⟨_, rfl⟩
    have eS2 : shSpans si sr sc L = (S.drop i).take (j - i) := by unfold shSpans; rw [if_pos hchk2, es2, hS]
    have hSlen : S.length = M.length - 1 := by rw [hS, spF_len sc hc l _ _ _ hv, if_pos rfl, hMF]
    rw [eS, ← hS] at a5
    rw [eM2] at b3
    rw [eS2] at b4
    have c1 := @same_run ((M.drop i).take (j + 1 - i)) (by simp; omega) m (by simp; omega)
    have c2 := @sameS_run ((S.drop i).take (j - i)) (by simp; omega) m (by simp; omega)
    have s1 : pg.sh 22 = false := rfl
    have s2 : pg.sh 15 = false := rfl
    have s3 : pg.sh 24 = false := rfl
    have s4 : pg.sh 25 = false := rfl
    have s5 : pg.sh 26 = false := rfl
    have hcL : D.canonL (L.map rowD) = true := canonL_map rowD (fun _ => rfl) L
    have k1 : D.canonL (((M.drop i).take (j + 1 - i)).map D.int) = true := canonL_map D.int (fun _ => rfl) _
    have k2 := sps_canon ((S.drop i).take (j - i))
    have hMne : M ≠ [] := by intro h; apply h0; rw [h]; rfl
    have h0' : ((M.length : Int) == 0) = false := by simp [hMne]
    have hne : ((S.length : Int) != (M.length : Int) - 1) = false := by simp; omega
    have hh1 := ints_head M
    have hh2 := sps_head S
    have t1 : (i : Int) ≤ (j : Int) + 1 := by omega
    have t2 : ((j : Int) + 1).toNat = j + 1 := by omega
    have t3 : (j : Int) + 1 ≤ M.length := by omega
    have t4 : (i : Int) ≤ j := by omega
    have t5 : i ≤ j := by omega
    have t6 : j ≤ S.length := by omega
    simp only [sheetC, rowsD, intsD, spsD, List.map_take, List.map_drop] at a5 b1 b2 b3 b4 c1 c2 k1 k2
    simp [k6, Env.v_ini, sheetC, rowsD, D.cells, D.one, hs, a1, a2, a5, h0', q0, q1, w1, w2, w3, w4, hil, hjl', hA, hB, b1, b2, b3, b4, c1, c2, dcore_f, s1, s2, s3, s4, s5, hcr, hcL, k1, k2, hne, hh1, hh2, t1, t2, t3, t4, t5, t6, zerosD, List.range_succ]
end Go.Proofs.YtdljcjbghinhiaaDoor
