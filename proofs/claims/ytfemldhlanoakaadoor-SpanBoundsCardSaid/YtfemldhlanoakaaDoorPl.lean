/- The place of a mark that may not be there. -/
import Derived.Test.YtfemldhlanoakaaDoorKp1
import Derived.Test.YtfemldhlanoakaaDoorMul
import Derived.Test.YtfemldhlanoakaaDoorEmNet
namespace Go.Proofs.YtfemldhlanoakaaDoor
open Go Go.Em
set_option maxRecDepth 100000
def PI2 (M : List Int) (v : Int) (p : Nat) (k : Nat) (s : St) : Prop := ∃ (x : Env 54) (h : Heap) (i j : Nat), s = ⟨x.l, h, []⟩ ∧ j - i ≤ k ∧ i ≤ p ∧ p ≤ j ∧ j ≤ M.length ∧ x.v 0 = intsD M ∧ x.v 1 = D.int v ∧ x.v 6 = D.int M.length ∧ x.v 7 = D.int i ∧ x.v 8 = D.int j
def PQ2 (M : List Int) (v : Int) (p : Nat) (x : Ex) (s : St) : Prop := x = .exit 0 ∧ ∃ (x : Env 54) (h : Heap), s = ⟨x.l, h, []⟩ ∧ x.v 0 = intsD M ∧ x.v 1 = D.int v ∧ x.v 6 = D.int M.length ∧ x.v 7 = D.int p
set_option maxHeartbeats 1000000 in
theorem search_round2 (M : List Int) (hl : M.length ≤ 4000) (v : Int) (p : Nat) (hpv : ∀ q (h : q < M.length), M[q] < v ↔ q < p) : ∀ n, 2 ≤ n → ∀ k s, PI2 M v p k s → Res (k98l0.ev ⟨pg, 54, none⟩ (rc pg n) s) (Rnd (PI2 M v p) (PQ2 M v p) k) := by
  rintro n hn k s ⟨x, h, i, j, rfl, hk, hi, hj, hjl, v0, v1, v6, v7, v8⟩
  simp only [intsD] at v0
  by_cases hij : i < j
  · obtain ⟨q, hq⟩ : ∃ q, q = (i + j) / 2 := ⟨_, rfl⟩
    have hqM : q < M.length := by omega
    obtain ⟨w, hw⟩ : ∃ w, M[q] = w := ⟨_, rfl⟩
    have hcmp : w < v ↔ q < p := by rw [← hw]; exact hpv q hqM
    have w1 : IntKind.i64.wrap ((i : Int) + j) = ((i + j : Nat) : Int) := by rw [wrap_i64 (by omega) (by omega)]; omega
    have w2 : IntKind.u64.wrap ((i + j : Nat) : Int) = ((i + j : Nat) : Int) := wrap_u64 (by omega) (by omega)
    have w3 : IntKind.i64.wrap (((i + j) / 2 : Nat) : Int) = (q : Int) := by rw [wrap_i64 (by omega) (by omega)]; omega
    have w4 : IntKind.i64.wrap ((q : Int) + 1) = (q : Int) + 1 := wrap_i64 (by omega) (by omega)
    have sh := bin_shr1 (i + j)
    have hls := fun h => call_of (h := h) (pg := pg) (f := 117) (args := [D.int w, D.int v]) rfl (by simp) (@less_run w v n hn)
    obtain ⟨u, hu⟩ : ∃ u, u = i + j := ⟨_, rfl⟩
    have hq2 : (i + j) / 2 = q := hq.symm
    rw [hq2] at w3 sh
    rw [← hu] at w1 w2 sh
    by_cases hlt : w < v
    · simp [k98l0, v0, v1, v7, v8, hij, w1, w2, w3, sh, hqM, hw, hls, hlt, w4, D.cells]
      exact ⟨k - 1, by omega, _, _, q + 1, j, rfl, by omega, by have := hcmp.1 hlt; omega, hj, hjl, by simp [v0, intsD], by simp [v1], by simp [v6], by simp, by simp [v8]⟩
    · simp [k98l0, v0, v1, v7, v8, hij, w1, w2, w3, sh, hqM, hw, hls, hlt, D.cells]
      exact ⟨k - 1, by omega, _, _, i, q, rfl, by omega, hi, by have : ¬ q < p := fun h => hlt (hcmp.2 h); omega, by omega, by simp [v0, intsD], by simp [v1], by simp [v6], by simp [v7], by simp⟩
  · have hip : i = p := by omega
    subst hip
    have hij' : ¬ i < j := hij
    simp [k98l0, v7, v8, hij']
    exact ⟨rfl, _, _, rfl, by simp [v0, intsD], by simp [v1], by simp [v6], by simp [v7]⟩
/-- How many are less. -/
def lessN (M : List Int) (v : Int) : Nat := (M.filter fun x => decide (x < v)).length
theorem lessN_le (M : List Int) (v : Int) : lessN M v ≤ M.length := List.length_filter_le _ _
theorem lessN_is : ∀ (M : List Int) (v : Int), Rise M → ∀ q (h : q < M.length), M[q] < v ↔ q < lessN M v
  | a :: M, v, hM, q, h => by
    unfold Rise at hM
    rw [List.pairwise_cons] at hM
    have ih := lessN_is M v hM.2
    unfold lessN at ih ⊢
    by_cases ha : a < v
    · rw [List.filter_cons_of_pos (by simpa using ha)]
      cases q with
      | zero => simp [ha]
      | succ q => simpa using ih q (by simpa using h)
    · have hno : ∀ x ∈ M, ¬ x < v := fun x hx => by have := hM.1 x hx; omega
      have hnil : M.filter (fun x => decide (x < v)) = [] := List.filter_eq_nil_iff.2 fun x hx => by simpa using hno x hx
      rw [List.filter_cons_of_neg (by simpa using ha), hnil]
      cases q with
      | zero => simp [ha]
      | succ q =>
        have := hno (M[q]'(by simpa using h)) (List.getElem_mem _)
        simp [this]
theorem nan81_run (a : Int) {n : Nat} (hn : 1 ≤ n) : pureCall (rc pg n) 118 [D.int a] = some (.ret (D.bool false)) := by
  obtain ⟨m, rfl, e⟩ := body (pg := pg) (f := 118) (args := [D.int a]) hn rfl rfl
  rw [e]
  simp [k118, Env.v_ini]
theorem search_none (M : List Int) (hM : Rise M) (hl : M.length ≤ 4000) (v : Int) (hv : v ∉ M) {n : Nat} (hn : M.length + 10 ≤ n) : pureCall (rc pg n) 98 [intsD M, D.int v] = some (.ret (.tup [D.int (lessN M v), D.bool false])) := by
  obtain ⟨m, rfl, e⟩ := body (pg := pg) (f := 98) (args := [intsD M, D.int v]) (show 0 < n by omega) rfl rfl
  rw [e]
  have hle := lessN_le M v
  have c81 := fun a h => call_of (h := h) (pg := pg) (f := 118) (args := [D.int a]) rfl (by simp) (@nan81_run a m (by omega))
  simp [k98, Env.v_ini, intsD, ev_loop]
  refine Res.endsAfter (lp_rule 2 (PI2 M v (lessN M v)) _ (search_round2 M hl v (lessN M v) (lessN_is M v hM)) M.length m _ (by omega) ⟨_, _, 0, M.length, rfl, by omega, by omega, by omega, by omega, by simp [Env.v_ini, intsD], by simp [Env.v_ini], by simp, by simp, by simp⟩) ?_
  rintro x s ⟨rfl, x, h, rfl, v0, v1, v6, v7⟩
  simp only [intsD] at v0
  by_cases hp : lessN M v < M.length
  · obtain ⟨w, hw⟩ : ∃ w, M[lessN M v] = w := ⟨_, rfl⟩
    have hne : (w == v) = false := by
      have : w ≠ v := fun e => hv (by rw [← e, ← hw]; exact List.getElem_mem hp)
      simpa using this
    simp [-beq_eq_false_iff_ne, v0, v1, v6, v7, hp, D.cells, hw, hne, c81]
  · simp [v0, v1, v6, v7, hp, D.cells]
theorem place_none (M : List Int) (hM : Rise M) (hl : M.length ≤ 4000) (v : Int) (hv : v ∉ M) {n : Nat} (hn : M.length + 11 ≤ n) : pureCall (rc pg n) 60 [intsD M, D.int v] = some (.ret (D.int (-1))) := by
  obtain ⟨m, rfl, e⟩ := body (pg := pg) (f := 60) (args := [intsD M, D.int v]) (show 0 < n by omega) rfl rfl
  rw [e]
  have h1 := fun h => call_of (h := h) (pg := pg) (f := 98) (args := [intsD M, D.int v]) rfl (by simp [intsD, ints_canonL]) (@search_none M hM hl v hv m (by omega))
  simp only [intsD] at h1
  simp [k60, Env.v_ini, intsD, h1]
end Go.Proofs.YtfemldhlanoakaaDoor
/- The closure of claims between two marks, by the program. -/
namespace Go.Proofs.YtfemldhlanoakaaDoor
open Go Go.Em Go.Em.Net
set_option maxRecDepth 100000
def posF (M : List Int) (v : Int) : Int := if v ∈ M then placeF M v else -1
theorem place_all (M : List Int) (hM : Rise M) (hl : M.length ≤ 64) (v : Int) {n : Nat} (hn : 80 ≤ n) : pureCall (rc pg n) 60 [intsD M, D.int v] = some (.ret (D.int (posF M v))) := by
  unfold posF
  by_cases hv : v ∈ M
  · obtain ⟨h1, h2⟩ := place_at hv
    have := @place_run M hM (by omega) _ h1 n (by omega)
    rw [h2] at this
    rw [if_pos hv]; exact this
  · rw [if_neg hv]; exact place_none M hM (by omega) v hv (by omega)
def bet0 : D := .agg [.sl false [], .sl false [], D.int 0, D.int 0]
def betF (l : List Clm) (a b : Int) : D :=
  if chkF l ≠ 0 then .tup [bet0, D.int (chkF l)]
  else if posF (marksF l) a = -1 ∨ posF (marksF l) b = -1 then .tup [bet0, D.int 3]
  else if badF l = true then .tup [bet0, D.int 25]
  else .tup [.agg [intsD (marksF l), rowsD (marksF l).length (encM (cloF l)), D.int (posF (marksF l) a), D.int (posF (marksF l) b)], D.int 0]
set_option maxHeartbeats 8000000 in
theorem bet_run (l : List Clm) (a b : Int) {f : Nat} (hf : 1200 ≤ f) : pureCall (rc pg f) 48 [clsD l, D.int a, D.int b] = some (.ret (betF l a b)) := by
  obtain ⟨m, rfl, e⟩ := body (pg := pg) (f := 48) (args := [clsD l, D.int a, D.int b]) (show 0 < f by omega) rfl rfl
  rw [e]
  have c30 := fun h => call_of (h := h) (pg := pg) (f := 29) rfl (cls_canon l) (@chk_run l m (by omega))
  simp only [clsD] at c30
  have hm1 : IntKind.i64.wrap (-1) = -1 := by decide
  by_cases h0 : chkF l = 0
  · rw [h0] at c30
    obtain ⟨hl1, hl2, hl3⟩ := chk_ok h0
    have c46 := fun h => call_of (h := h) (pg := pg) (f := 51) rfl (two_ok l) (@graph_run l h0 m (by omega))
    have s37 : pg.sh 60 = false := rfl
    have hcan := ints_canonL (marksF l)
    have pa := @place_all (marksF l) (marks_rise l) hl3 a m (by omega)
    have pb := @place_all (marksF l) (marks_rise l) hl3 b m (by omega)
    have c48 := fun h => call_of (h := h) (pg := pg) (f := 70) rfl (gr_canon (marksF l) (movsF (marksF l) 0 l)) (@closure_all l h0 m (by omega))
    simp only [clsD, eachD, grD, intsD, mosD] at c46 pa pb c48
    obtain ⟨A, hA⟩ : ∃ A, A = posF (marksF l) a := ⟨_, rfl⟩
    obtain ⟨B, hB⟩ : ∃ B, B = posF (marksF l) b := ⟨_, rfl⟩
    rw [← hA] at pa
    rw [← hB] at pb
    by_cases h1 : A = -1
    · have e0 : betF l a b = .tup [bet0, D.int 3] := by unfold betF; rw [if_neg (by simpa using h0), if_pos (.inl (by rw [← hA]; exact h1))]
      have q1 : (A == -1) = true := by simp [h1]
      simp [-beq_iff_eq, k48, Env.v_ini, clsD, D.cells, D.one, c30, c46, dcore_f, s37, hcan, pa, pb, q1, e0, bet0]
    · have q1 : (A == -1) = false := by simp [h1]
      by_cases h2 : B = -1
      · have e0 : betF l a b = .tup [bet0, D.int 3] := by unfold betF; rw [if_neg (by simpa using h0), if_pos (.inr (by rw [← hB]; exact h2))]
        have q2 : (B == -1) = true := by simp [h2]
        simp [-beq_iff_eq, -beq_eq_false_iff_ne, k48, Env.v_ini, clsD, D.cells, D.one, c30, c46, dcore_f, s37, hcan, pa, pb, q1, q2, e0, bet0]
      · have q2 : (B == -1) = false := by simp [h2]
        have hno : ¬ (posF (marksF l) a = -1 ∨ posF (marksF l) b = -1) := by rw [← hA, ← hB]; simp [h1, h2]
        cases hbad : badF l with
        | true =>
          have e0 : betF l a b = .tup [bet0, D.int 25] := by unfold betF; rw [if_neg (by simpa using h0), if_neg hno, if_pos hbad]
          rw [hbad] at c48
          simp only [cond_true] at c48
          simp [-beq_iff_eq, -beq_eq_false_iff_ne, k48, Env.v_ini, clsD, D.cells, D.one, c30, c46, dcore_f, s37, hcan, pa, pb, q1, q2, c48, e0, bet0]
        | false =>
          have e0 : betF l a b = .tup [.agg [intsD (marksF l), rowsD (marksF l).length (encM (cloF l)), D.int A, D.int B], D.int 0] := by unfold betF; rw [if_neg (by simpa using h0), if_neg hno, if_neg (by rw [hbad]; simp), hA, hB]
          rw [hbad] at c48
          simp only [cond_false] at c48
          have hcX : D.canonL ((List.range (marksF l).length).map fun i => D.sl false (yCs (marksF l).length (encM (cloF l) i))) = true := canonL_map _ (fun i => by simp [yCs_canon]) _
          have hx20 := fun H => each_canon H 20 _ hcX
          unfold rowsD at c48
          simp [-beq_iff_eq, -beq_eq_false_iff_ne, k48, Env.v_ini, clsD, D.cells, D.one, c30, c46, dcore_f, s37, hcan, pa, pb, q1, q2, c48, e0, intsD, rowsD, hx20]
  · have h0' : (chkF l != 0) = true := by simpa using h0
    have e0 : betF l a b = .tup [bet0, D.int (chkF l)] := by unfold betF; rw [if_pos h0]
    simp [-bne_iff_ne, k48, Env.v_ini, clsD, D.cells, D.one, c30, h0', e0, bet0]
end Go.Proofs.YtfemldhlanoakaaDoor
/- Bounds, by the program. -/
namespace Go.Proofs.YtfemldhlanoakaaDoor
open Go Go.Em Go.Em.Net
set_option maxRecDepth 100000
/-- The error of the functions of two marks. -/
def errF (l : List Clm) (a b : Int) : Int := if chkF l ≠ 0 then chkF l else if posF (marksF l) a = -1 ∨ posF (marksF l) b = -1 then 3 else if badF l = true then 25 else 0
def bdsF (l : List Clm) (a b : Int) : D := if errF l a b = 0 then .tup [D.int (-(encM (cloF l) (placeF (marksF l) b) (placeF (marksF l) a))), D.int (encM (cloF l) (placeF (marksF l) a) (placeF (marksF l) b)), D.int 0] else .tup [D.int 0, D.int 0, D.int (errF l a b)]
theorem bet_err {l : List Clm} {a b : Int} (h : errF l a b ≠ 0) : betF l a b = .tup [bet0, D.int (errF l a b)] := by
  unfold errF at h
  unfold betF errF
  split
  · rfl
  · split
    · rfl
    · split
      · rfl
      · rename_i h1 h2 h3; rw [if_neg h1, if_neg h2, if_neg h3] at h; exact absurd rfl h
theorem bet_ok {l : List Clm} {a b : Int} (h : errF l a b = 0) : chkF l = 0 ∧ badF l = false ∧ ∃ (pa pb : Nat), pa < (marksF l).length ∧ pb < (marksF l).length ∧ pa = placeF (marksF l) a ∧ pb = placeF (marksF l) b ∧ betF l a b = .tup [.agg [intsD (marksF l), rowsD (marksF l).length (encM (cloF l)), D.int pa, D.int pb], D.int 0] := by
  unfold errF at h
  split at h
  · rename_i h1; exact absurd h h1
  · split at h
    · cases h
    · split at h
      · cases h
      · rename_i h1 h2 h3
        have ha : a ∈ marksF l := Decidable.byContradiction fun hn => h2 (.inl (by unfold posF; rw [if_neg hn]))
        have hb : b ∈ marksF l := Decidable.byContradiction fun hn => h2 (.inr (by unfold posF; rw [if_neg hn]))
        refine ⟨by simpa using h1, by simpa using h3, placeF (marksF l) a, placeF (marksF l) b, (place_at ha).1, (place_at hb).1, rfl, rfl, ?_⟩
        unfold betF
        rw [if_neg h1, if_neg h2, if_neg h3]
        unfold posF
        rw [if_pos ha, if_pos hb]
theorem clo_bt {l : List Clm} (h0 : chkF l = 0) (hb : badF l = false) : Bt (cloF l) := (good_movs h0).calm (chk_ok h0).2.2 ((bad_iff h0).1 hb) _ (Nat.le_refl _)
set_option maxHeartbeats 8000000 in
theorem bds_run (l : List Clm) (a b : Int) {f : Nat} (hf : 1300 ≤ f) : pureCall (rc pg f) 15 [clsD l, D.int a, D.int b] = some (.ret (bdsF l a b)) := by
  obtain ⟨m, rfl, e⟩ := body (pg := pg) (f := 15) (args := [clsD l, D.int a, D.int b]) (show 0 < f by omega) rfl rfl
  rw [e]
  have hcan : D.canonL [clsD l, D.int a, D.int b] = true := by simp [clsD, canonL_map clD cl_canon l]
  have c43 := fun h => call_of (h := h) (pg := pg) (f := 48) rfl hcan (@bet_run l a b m (by omega))
  simp only [clsD] at c43
  by_cases hE : errF l a b = 0
  · obtain ⟨h0, hb, pa, pb, h1, h2, h3, h4, e0⟩ := bet_ok hE
    have ed : bdsF l a b = .tup [D.int (-(encM (cloF l) pb pa)), D.int (encM (cloF l) pa pb), D.int 0] := by unfold bdsF; rw [if_pos hE, h3, h4]
    rw [e0] at c43
    have hbd := enc_bd (clo_bt h0 hb)
    have w1 : IntKind.i64.wrap (-(encM (cloF l) pb pa)) = -(encM (cloF l) pb pa) := by have := hbd pb pa; exact wrap_i64 (by omega) (by omega)
    have y1 := yCs_len (marksF l).length (encM (cloF l) pb)
    have y2 := yCs_len (marksF l).length (encM (cloF l) pa)
    have g1 : ∀ h' : pa < (yCs (marksF l).length (encM (cloF l) pb)).length, (yCs (marksF l).length (encM (cloF l) pb))[pa]'h' = D.int (encM (cloF l) pb pa) := fun h' => Option.some.inj (by rw [← List.getElem?_eq_getElem h']; exact yCs_get h1)
    have g2 : ∀ h' : pb < (yCs (marksF l).length (encM (cloF l) pa)).length, (yCs (marksF l).length (encM (cloF l) pa))[pb]'h' = D.int (encM (cloF l) pa pb) := fun h' => Option.some.inj (by rw [← List.getElem?_eq_getElem h']; exact yCs_get h2)
    simp only [intsD, rowsD] at c43
    simp [k15, Env.v_ini, clsD, D.cells, D.one, c43, ed, h1, h2, y1, y2, g1, g2, w1]
  · have e0 := bet_err hE
    have ed : bdsF l a b = .tup [D.int 0, D.int 0, D.int (errF l a b)] := by unfold bdsF; rw [if_neg hE]
    have q : (errF l a b != 0) = true := by simpa using hE
    rw [e0] at c43
    simp only [bet0] at c43
    simp [-bne_iff_ne, k15, Env.v_ini, clsD, D.cells, D.one, c43, ed, q]
end Go.Proofs.YtfemldhlanoakaaDoor
/- The closure of claims: it does not depend on their order, and no bound grows with more of them. -/
namespace Go.Proofs.YtfemldhlanoakaaDoor
open Go Go.Em Go.Em.Net
/-- The closure of claims is closed. -/
theorem clo_clsd {l : List Clm} (h0 : chkF l = 0) (hb : badF l = false) : Clsd (marksF l).length (cloF l) := by
  have hd := (bad_iff h0).1 hb
  refine ⟨fun i hi => hd _ (Nat.le_refl _) i hi, fun hl ha hb' => fw_closed _ (fun q hq => hd q (by omega) q hq) hl ha hb', fun h => fw_sym (good_movs h0).symE _ h⟩
end Go.Proofs.YtfemldhlanoakaaDoor
/- Years that are given to marks one after the other, each within the room that the bounds leave it: mathematics. -/
namespace Go.Proofs.YtfemldhlanoakaaDoor
open Go Go.Em Go.Em.Net
/-- The least and the greatest year that the first marks leave; whether they leave all. -/
def roomI (A : Nat → Nat → Int) (dt : Nat → Bool) (y : Nat → Int) (i : Nat) : Nat → Int × Int × Bool
  | 0 => (-1000000000, 1000000000, true)
  | J + 1 => if dt J = true ∧ A i J ≠ 1000000000 then (max (roomI A dt y i J).1 (y J - A i J), min (roomI A dt y i J).2.1 (y J + A J i), false) else roomI A dt y i J
/-- Years that break no bound, none far from one that was there at the beginning. -/
structure FOk (n : Nat) (N : Mx) (dt : Nat → Bool) (y : Nat → Int) : Prop where
  kept : Kept N dt y
  root : ∀ j, j < n → dt j = true → ∃ r, r < n ∧ dt r = true ∧ N r j ≠ none ∧ -100000000 ≤ y r ∧ y r ≤ 100000000
theorem FOk.bd {n : Nat} {N : Mx} {dt : Nat → Bool} {y : Nat → Int} (f : FOk n N dt y) (h : Clsd n N) (hb : Bt N) {j : Nat} (hj : j < n) (hd : dt j = true) : -200000000 ≤ y j ∧ y j ≤ 200000000 := by
  obtain ⟨r, hr, h1, h2, h3, h4⟩ := f.root j hj hd
  obtain ⟨c, hc⟩ := Option.ne_none_iff_exists'.1 h2
  obtain ⟨d, hd'⟩ := Option.ne_none_iff_exists'.1 (h.sym h2)
  have a1 := f.kept r j c h1 hd hc
  have a2 := f.kept j r d hd h1 hd'
  have a3 := hb _ _ _ hc
  have a4 := hb _ _ _ hd'
  omega
/-- The number that stands behind those that were taken. -/
def pickI (p : List Int) (t : Nat) (c : Int) : Int := if p = [] ∨ c < 1 then 0 else p.getD (t % p.length) 0 % c
structure Fs where
  dt : Nat → Bool
  y : Nat → Int
  t : Nat
def Fs.put (s : Fs) (i : Nat) (v : Int) (t : Nat) : Fs := ⟨fun q => if q = i then true else s.dt q, fun q => if q = i then v else s.y q, t⟩
def fillS (A : Nat → Nat → Int) (n : Nat) (p : List Int) (s : Fs) (i : Nat) : Fs :=
  if s.dt i = true then s
  else if (roomI A s.dt s.y i n).2.2 = true then s.put i 0 s.t
  else s.put i ((roomI A s.dt s.y i n).1 + pickI p s.t ((roomI A s.dt s.y i n).2.1 - (roomI A s.dt s.y i n).1 + 1)) (s.t + 1)
def fillN (A : Nat → Nat → Int) (n : Nat) (p : List Int) (s : Fs) : Nat → Fs
  | 0 => s
  | i + 1 => fillS A n p (fillN A n p s i) i
end Go.Proofs.YtfemldhlanoakaaDoor
/- Whether a net is closed, by the program: the closure of claims is. -/
namespace Go.Proofs.YtfemldhlanoakaaDoor
open Go Go.Em Go.Em.Net
set_option maxRecDepth 100000
def nD (M : List Int) (A : Nat → Nat → Int) : D := .agg [intsD M, rowsD M.length A]
theorem rows_canonL (n : Nat) (A : Nat → Nat → Int) : D.canonL ((List.range n).map fun i => D.sl false (yCs n (A i))) = true := canonL_map _ (fun i => by simp [yCs_canon]) _
theorem yCs_at {n : Nat} {y : Nat → Int} {j : Nat} (hj : j < n) (h : j < (yCs n y).length) : (yCs n y)[j]'h = D.int (y j) := Option.some.inj (by rw [← List.getElem?_eq_getElem h]; exact yCs_get hj)
theorem far_run (M : List Int) (A : Nat → Nat → Int) {i j : Nat} (hi : i < M.length) (hj : j < M.length) {n : Nat} (hn : 1 ≤ n) : pureCall (rc pg n) 49 [nD M A, D.int i, D.int j] = some (.ret (D.bool (A i j == 1000000000))) := by
  obtain ⟨m, rfl, e⟩ := body (pg := pg) (f := 49) (args := [nD M A, D.int i, D.int j]) (show 0 < n by omega) rfl rfl
  rw [e]
  have y1 := yCs_len M.length (A i)
  have g1 := fun h' => yCs_at (y := A i) hj h'
  simp [-beq_iff_eq, k49, Env.v_ini, nD, intsD, rowsD, D.cells, D.one, hi, hj, y1, g1]
end Go.Proofs.YtfemldhlanoakaaDoor
/- Whether a net is closed, by the program: the loops, and the answer. -/
namespace Go.Proofs.YtfemldhlanoakaaDoor
open Go Go.Em Go.Em.Net
set_option maxRecDepth 100000
end Go.Proofs.YtfemldhlanoakaaDoor
/- Whether a net is closed, by the program: the other loops, and the answer. -/
namespace Go.Proofs.YtfemldhlanoakaaDoor
open Go Go.Em Go.Em.Net
set_option maxRecDepth 100000
end Go.Proofs.YtfemldhlanoakaaDoor
/- The closure of claims, by the program's exported function; nets that are equal; claims with one more. -/
namespace Go.Proofs.YtfemldhlanoakaaDoor
open Go Go.Em Go.Em.Net
set_option maxRecDepth 100000
end Go.Proofs.YtfemldhlanoakaaDoor
/- The closure does not depend on the order of the claims: rotations; one more claim; places; remainders. -/
namespace Go.Proofs.YtfemldhlanoakaaDoor
open Go Go.Em Go.Em.Net
set_option maxRecDepth 100000
theorem ix_place {v : Int} : ∀ {M : List Int} {i : Nat}, v ∈ M → ixP (· == v) i M = ((i + placeF M v : Nat) : Int)
  | [], _, h => absurd h List.not_mem_nil
  | a :: M, i, h => by
    unfold ixP placeF
    rw [List.idxOf_cons]
    by_cases e : a = v
    · subst e; simp
    · have e' : (a == v) = false := by simpa using e
      have hv : v ∈ M := by
        rcases List.mem_cons.1 h with h | h
        · exact absurd h.symm e
        · exact h
      have := ix_place (i := i + 1) hv
      unfold placeF at this
      simp only [e', Bool.false_eq_true, if_false, cond_false]
      rw [this]
      congr 1
      omega
end Go.Proofs.YtfemldhlanoakaaDoor
