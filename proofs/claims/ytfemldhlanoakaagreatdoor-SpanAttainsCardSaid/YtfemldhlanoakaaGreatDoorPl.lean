/- The place of a mark that may not be there. -/
import Derived.Test.YtfemldhlanoakaaGreatDoorKp1
import Derived.Test.YtfemldhlanoakaaGreatDoorMul
import Derived.Test.YtfemldhlanoakaaGreatDoorEmNet
namespace Go.Proofs.YtfemldhlanoakaaGreatDoor
open Go Go.Em
set_option maxRecDepth 100000
def PI2 (M : List Int) (v : Int) (p : Nat) (k : Nat) (s : St) : Prop := ∃ (x : Env 54) (h : Heap) (i j : Nat), s = ⟨x.l, h, []⟩ ∧ j - i ≤ k ∧ i ≤ p ∧ p ≤ j ∧ j ≤ M.length ∧ x.v 0 = intsD M ∧ x.v 1 = D.int v ∧ x.v 6 = D.int M.length ∧ x.v 7 = D.int i ∧ x.v 8 = D.int j
def PQ2 (M : List Int) (v : Int) (p : Nat) (x : Ex) (s : St) : Prop := x = .exit 0 ∧ ∃ (x : Env 54) (h : Heap), s = ⟨x.l, h, []⟩ ∧ x.v 0 = intsD M ∧ x.v 1 = D.int v ∧ x.v 6 = D.int M.length ∧ x.v 7 = D.int p
set_option maxHeartbeats 1000000 in
theorem search_round2 (M : List Int) (hl : M.length ≤ 4000) (v : Int) (p : Nat) (hpv : ∀ q (h : q < M.length), M[q] < v ↔ q < p) : ∀ n, 2 ≤ n → ∀ k s, PI2 M v p k s → Res (k93l0.ev ⟨pg, 54, none⟩ (rc pg n) s) (Rnd (PI2 M v p) (PQ2 M v p) k) := by
  rintro n hn k s ⟨x, h, i, j, rfl, hk, hi, hj, hjl, v0, v1, v6, v7, v8⟩
  simp only [intsD] at v0
  by_cases hij : i < j
  · obtain ⟨q, hq⟩ : ∃ q, q = (i + j) / 2 := ⟨_, rfl⟩
    have hqM : q < M.length := by omega
    obtain ⟨w, hw⟩ : ∃ w, M[q] = w := ⟨_, rfl⟩
    have hcmp : w < v ↔ q < p := by rw [← hw]; exact hpv q hqM
    have w1 : IntKind.i64.wrap ((i : Int) + j) = ((i + j : Nat) : Int) := by rw [wrap_i64 (by omega) (by omega)]; omega
    have w2 : IntKind.u64.wrap ((i + j : Nat) : Int) = ((i + j : Nat) : Int) := wrap_u64 (by omega) (by omega)
    have w3 : IntKind.i64.wrap (((i + j) / 2 : Nat) : Int) = (q : Int) := by rw [wrap_i64 (by omega) (by omega)]; omega
    have w4 : IntKind.i64.wrap ((q : Int) + 1) = (q : Int) + 1 := wrap_i64 (by omega) (by omega)
    have sh := bin_shr1 (i + j)
    have hls := fun h => call_of (h := h) (pg := pg) (f := 105) (args := [D.int w, D.int v]) rfl (by simp) (@less_run w v n hn)
    obtain ⟨u, hu⟩ : ∃ u, u = i + j := ⟨_, rfl⟩
    have hq2 : (i + j) / 2 = q := hq.symm
    rw [hq2] at w3 sh
    rw [← hu] at w1 w2 sh
    by_cases hlt : w < v
    · simp [k93l0, v0, v1, v7, v8, hij, w1, w2, w3, sh, hqM, hw, hls, hlt, w4, D.cells]
      exact ⟨k - 1, by omega, _, _, q + 1, j, rfl, by omega, by have := hcmp.1 hlt; omega, hj, hjl, by simp [v0, intsD], by simp [v1], by simp [v6], by simp, by simp [v8]⟩
    · simp [k93l0, v0, v1, v7, v8, hij, w1, w2, w3, sh, hqM, hw, hls, hlt, D.cells]
      exact ⟨k - 1, by omega, _, _, i, q, rfl, by omega, hi, by have : ¬ q < p := fun h => hlt (hcmp.2 h); omega, by omega, by simp [v0, intsD], by simp [v1], by simp [v6], by simp [v7], by simp⟩
  · have hip : i = p := by omega
    subst hip
    have hij' : ¬ i < j := hij
    simp [k93l0, v7, v8, hij']
    exact ⟨rfl, _, _, rfl, by simp [v0, intsD], by simp [v1], by simp [v6], by simp [v7]⟩
/-- How many are less. -/
def lessN (M : List Int) (v : Int) : Nat := (M.filter fun x => decide (x < v)).length
theorem lessN_le (M : List Int) (v : Int) : lessN M v ≤ M.length := List.length_filter_le _ _
theorem lessN_is : ∀ (M : List Int) (v : Int), Rise M → ∀ q (h : q < M.length), M[q] < v ↔ q < lessN M v
  | a :: M, v, hM, q, h => by
    unfold Rise at hM
    rw [List.pairwise_cons] at hM
    have ih := lessN_is M v hM.2
    unfold lessN at ih ⊢
    by_cases ha : a < v
    · rw [List.filter_cons_of_pos (by simpa using ha)]
      cases q with
      | zero => simp [ha]
      | succ q => simpa using ih q (by simpa using h)
    · have hno : ∀ x ∈ M, ¬ x < v := fun x hx => by have := hM.1 x hx; omega
      have hnil : M.filter (fun x => decide (x < v)) = [] := List.filter_eq_nil_iff.2 fun x hx => by simpa using hno x hx
      rw [List.filter_cons_of_neg (by simpa using ha), hnil]
      cases q with
      | zero => simp [ha]
      | succ q =>
        have := hno (M[q]'(by simpa using h)) (List.getElem_mem _)
        simp [this]
theorem nan81_run (a : Int) {n : Nat} (hn : 1 ≤ n) : pureCall (rc pg n) 106 [D.int a] = some (.ret (D.bool false)) := by
  obtain ⟨m, rfl, e⟩ := body (pg := pg) (f := 106) (args := [D.int a]) hn rfl rfl
  rw [e]
  simp [k106, Env.v_ini]
theorem search_none (M : List Int) (hM : Rise M) (hl : M.length ≤ 4000) (v : Int) (hv : v ∉ M) {n : Nat} (hn : M.length + 10 ≤ n) : pureCall (rc pg n) 93 [intsD M, D.int v] = some (.ret (.tup [D.int (lessN M v), D.bool false])) := by
  obtain ⟨m, rfl, e⟩ := body (pg := pg) (f := 93) (args := [intsD M, D.int v]) (show 0 < n by omega) rfl rfl
  rw [e]
  have hle := lessN_le M v
  have c81 := fun a h => call_of (h := h) (pg := pg) (f := 106) (args := [D.int a]) rfl (by simp) (@nan81_run a m (by omega))
  simp [k93, Env.v_ini, intsD, ev_loop]
  refine Res.endsAfter (lp_rule 2 (PI2 M v (lessN M v)) _ (search_round2 M hl v (lessN M v) (lessN_is M v hM)) M.length m _ (by omega) ⟨_, _, 0, M.length, rfl, by omega, by omega, by omega, by omega, by simp [Env.v_ini, intsD], by simp [Env.v_ini], by simp, by simp, by simp⟩) ?_
  rintro x s ⟨rfl, x, h, rfl, v0, v1, v6, v7⟩
  simp only [intsD] at v0
  by_cases hp : lessN M v < M.length
  · obtain ⟨w, hw⟩ : ∃ w, M[lessN M v] = w := ⟨_, rfl⟩
    have hne : (w == v) = false := by
      have : w ≠ v := fun e => hv (by rw [← e, ← hw]; exact List.getElem_mem hp)
      simpa using this
    simp [-beq_eq_false_iff_ne, v0, v1, v6, v7, hp, D.cells, hw, hne, c81]
  · simp [v0, v1, v6, v7, hp, D.cells]
theorem place_none (M : List Int) (hM : Rise M) (hl : M.length ≤ 4000) (v : Int) (hv : v ∉ M) {n : Nat} (hn : M.length + 11 ≤ n) : pureCall (rc pg n) 65 [intsD M, D.int v] = some (.ret (D.int (-1))) := by
  obtain ⟨m, rfl, e⟩ := body (pg := pg) (f := 65) (args := [intsD M, D.int v]) (show 0 < n by omega) rfl rfl
  rw [e]
  have h1 := fun h => call_of (h := h) (pg := pg) (f := 93) (args := [intsD M, D.int v]) rfl (by simp [intsD, ints_canonL]) (@search_none M hM hl v hv m (by omega))
  simp only [intsD] at h1
  simp [k65, Env.v_ini, intsD, h1]
end Go.Proofs.YtfemldhlanoakaaGreatDoor
/- The closure of claims between two marks, by the program. -/
namespace Go.Proofs.YtfemldhlanoakaaGreatDoor
open Go Go.Em Go.Em.Net
set_option maxRecDepth 100000
def posF (M : List Int) (v : Int) : Int := if v ∈ M then placeF M v else -1
theorem place_all (M : List Int) (hM : Rise M) (hl : M.length ≤ 64) (v : Int) {n : Nat} (hn : 80 ≤ n) : pureCall (rc pg n) 65 [intsD M, D.int v] = some (.ret (D.int (posF M v))) := by
  unfold posF
  by_cases hv : v ∈ M
  · obtain ⟨h1, h2⟩ := place_at hv
    have := @place_run M hM (by omega) _ h1 n (by omega)
    rw [h2] at this
    rw [if_pos hv]; exact this
  · rw [if_neg hv]; exact place_none M hM (by omega) v hv (by omega)
def bet0 : D := .agg [.sl false [], .sl false [], D.int 0, D.int 0]
def betF (l : List Clm) (a b : Int) : D :=
  if chkF l ≠ 0 then .tup [bet0, D.int (chkF l)]
  else if posF (marksF l) a = -1 ∨ posF (marksF l) b = -1 then .tup [bet0, D.int 3]
  else if badF l = true then .tup [bet0, D.int 25]
  else .tup [.agg [intsD (marksF l), rowsD (marksF l).length (encM (cloF l)), D.int (posF (marksF l) a), D.int (posF (marksF l) b)], D.int 0]
set_option maxHeartbeats 8000000 in
theorem bet_run (l : List Clm) (a b : Int) {f : Nat} (hf : 1200 ≤ f) : pureCall (rc pg f) 22 [clsD l, D.int a, D.int b] = some (.ret (betF l a b)) := by
  obtain ⟨m, rfl, e⟩ := body (pg := pg) (f := 22) (args := [clsD l, D.int a, D.int b]) (show 0 < f by omega) rfl rfl
  rw [e]
  have c30 := fun h => call_of (h := h) (pg := pg) (f := 43) rfl (cls_canon l) (@chk_run l m (by omega))
  simp only [clsD] at c30
  have hm1 : IntKind.i64.wrap (-1) = -1 := by decide
  by_cases h0 : chkF l = 0
  · rw [h0] at c30
    obtain ⟨hl1, hl2, hl3⟩ := chk_ok h0
    have c46 := fun h => call_of (h := h) (pg := pg) (f := 44) rfl (two_ok l) (@graph_run l h0 m (by omega))
    have s37 : pg.sh 65 = false := rfl
    have hcan := ints_canonL (marksF l)
    have pa := @place_all (marksF l) (marks_rise l) hl3 a m (by omega)
    have pb := @place_all (marksF l) (marks_rise l) hl3 b m (by omega)
    have c48 := fun h => call_of (h := h) (pg := pg) (f := 48) rfl (gr_canon (marksF l) (movsF (marksF l) 0 l)) (@closure_all l h0 m (by omega))
    simp only [clsD, eachD, grD, intsD, mosD] at c46 pa pb c48
    obtain ⟨A, hA⟩ : ∃ A, A = posF (marksF l) a := ⟨_, rfl⟩
    obtain ⟨B, hB⟩ : ∃ B, B = posF (marksF l) b := ⟨_, rfl⟩
    rw [← hA] at pa
    rw [← hB] at pb
    by_cases h1 : A = -1
    · have e0 : betF l a b = .tup [bet0, D.int 3] := by unfold betF; rw [if_neg (by simpa using h0), if_pos (.inl (by rw [← hA]; exact h1))]
      have q1 : (A == -1) = true := by simp [h1]
      simp [-beq_iff_eq, k22, Env.v_ini, clsD, D.cells, D.one, c30, c46, dcore_f, s37, hcan, pa, pb, q1, e0, bet0]
    · have q1 : (A == -1) = false := by simp [h1]
      by_cases h2 : B = -1
      · have e0 : betF l a b = .tup [bet0, D.int 3] := by unfold betF; rw [if_neg (by simpa using h0), if_pos (.inr (by rw [← hB]; exact h2))]
        have q2 : (B == -1) = true := by simp [h2]
        simp [-beq_iff_eq, -beq_eq_false_iff_ne, k22, Env.v_ini, clsD, D.cells, D.one, c30, c46, dcore_f, s37, hcan, pa, pb, q1, q2, e0, bet0]
      · have q2 : (B == -1) = false := by simp [h2]
        have hno : ¬ (posF (marksF l) a = -1 ∨ posF (marksF l) b = -1) := by rw [← hA, ← hB]; simp [h1, h2]
        cases hbad : badF l with
        | true =>
          have e0 : betF l a b = .tup [bet0, D.int 25] := by unfold betF; rw [if_neg (by simpa using h0), if_neg hno, if_pos hbad]
          rw [hbad] at c48
          simp only [cond_true] at c48
          simp [-beq_iff_eq, -beq_eq_false_iff_ne, k22, Env.v_ini, clsD, D.cells, D.one, c30, c46, dcore_f, s37, hcan, pa, pb, q1, q2, c48, e0, bet0]
        | false =>
          have e0 : betF l a b = .tup [.agg [intsD (marksF l), rowsD (marksF l).length (encM (cloF l)), D.int A, D.int B], D.int 0] := by unfold betF; rw [if_neg (by simpa using h0), if_neg hno, if_neg (by rw [hbad]; simp), hA, hB]
          rw [hbad] at c48
          simp only [cond_false] at c48
          have hcX : D.canonL ((List.range (marksF l).length).map fun i => D.sl false (yCs (marksF l).length (encM (cloF l) i))) = true := canonL_map _ (fun i => by simp [yCs_canon]) _
          have hx20 := fun H => each_canon H 20 _ hcX
          unfold rowsD at c48
          simp [-beq_iff_eq, -beq_eq_false_iff_ne, k22, Env.v_ini, clsD, D.cells, D.one, c30, c46, dcore_f, s37, hcan, pa, pb, q1, q2, c48, e0, intsD, rowsD, hx20]
  · have h0' : (chkF l != 0) = true := by simpa using h0
    have e0 : betF l a b = .tup [bet0, D.int (chkF l)] := by unfold betF; rw [if_pos h0]
    simp [-bne_iff_ne, k22, Env.v_ini, clsD, D.cells, D.one, c30, h0', e0, bet0]
end Go.Proofs.YtfemldhlanoakaaGreatDoor
/- Bounds, by the program. -/
namespace Go.Proofs.YtfemldhlanoakaaGreatDoor
open Go Go.Em Go.Em.Net
set_option maxRecDepth 100000
/-- The error of the functions of two marks. -/
def errF (l : List Clm) (a b : Int) : Int := if chkF l ≠ 0 then chkF l else if posF (marksF l) a = -1 ∨ posF (marksF l) b = -1 then 3 else if badF l = true then 25 else 0
def bdsF (l : List Clm) (a b : Int) : D := if errF l a b = 0 then .tup [D.int (-(encM (cloF l) (placeF (marksF l) b) (placeF (marksF l) a))), D.int (encM (cloF l) (placeF (marksF l) a) (placeF (marksF l) b)), D.int 0] else .tup [D.int 0, D.int 0, D.int (errF l a b)]
theorem bet_err {l : List Clm} {a b : Int} (h : errF l a b ≠ 0) : betF l a b = .tup [bet0, D.int (errF l a b)] := by
  unfold errF at h
  unfold betF errF
  split
  · rfl
  · split
    · rfl
    · split
      · rfl
      · rename_i h1 h2 h3; rw [if_neg h1, if_neg h2, if_neg h3] at h; exact absurd rfl h
theorem bet_ok {l : List Clm} {a b : Int} (h : errF l a b = 0) : chkF l = 0 ∧ badF l = false ∧ ∃ (pa pb : Nat), pa < (marksF l).length ∧ pb < (marksF l).length ∧ pa = placeF (marksF l) a ∧ pb = placeF (marksF l) b ∧ betF l a b = .tup [.agg [intsD (marksF l), rowsD (marksF l).length (encM (cloF l)), D.int pa, D.int pb], D.int 0] := by
  unfold errF at h
  split at h
  · rename_i h1; exact absurd h h1
  · split at h
    · cases h
    · split at h
      · cases h
      · rename_i h1 h2 h3
        have ha : a ∈ marksF l := Decidable.byContradiction fun hn => h2 (.inl (by unfold posF; rw [if_neg hn]))
        have hb : b ∈ marksF l := Decidable.byContradiction fun hn => h2 (.inr (by unfold posF; rw [if_neg hn]))
        refine ⟨by simpa using h1, by simpa using h3, placeF (marksF l) a, placeF (marksF l) b, (place_at ha).1, (place_at hb).1, rfl, rfl, ?_⟩
        unfold betF
        rw [if_neg h1, if_neg h2, if_neg h3]
        unfold posF
        rw [if_pos ha, if_pos hb]
theorem clo_bt {l : List Clm} (h0 : chkF l = 0) (hb : badF l = false) : Bt (cloF l) := (good_movs h0).calm (chk_ok h0).2.2 ((bad_iff h0).1 hb) _ (Nat.le_refl _)
end Go.Proofs.YtfemldhlanoakaaGreatDoor
/- The closure of claims: it does not depend on their order, and no bound grows with more of them. -/
namespace Go.Proofs.YtfemldhlanoakaaGreatDoor
open Go Go.Em Go.Em.Net
theorem mvs_mem {M : List Int} {x : Mv} : ∀ {l : List Clm} {i : Nat}, x ∈ mvs (movsF M i l) ↔ ∃ c ∈ l, x = (placeF M c.a, placeF M c.b, c.hi) ∨ x = (placeF M c.b, placeF M c.a, -c.lo)
  | [], i => by simp [movsF, mvs]
  | a :: l, i => by
    have ih := @mvs_mem M x l (i + 1)
    have e : mvs (movsF M i (a :: l)) = (placeF M a.a, placeF M a.b, a.hi) :: (placeF M a.b, placeF M a.a, -a.lo) :: mvs (movsF M (i + 1) l) := by simp [mvs, movsF, movF]
    rw [e, List.mem_cons, List.mem_cons, ih]
    simp only [List.mem_cons, exists_eq_or_imp, or_assoc]
/-- The closure of claims is closed. -/
theorem clo_clsd {l : List Clm} (h0 : chkF l = 0) (hb : badF l = false) : Clsd (marksF l).length (cloF l) := by
  have hd := (bad_iff h0).1 hb
  refine ⟨fun i hi => hd _ (Nat.le_refl _) i hi, fun hl ha hb' => fw_closed _ (fun q hq => hd q (by omega) q hq) hl ha hb', fun h => fw_sym (good_movs h0).symE _ h⟩
theorem clo_out {l : List Clm} (h0 : chkF l = 0) : Out (marksF l).length (cloF l) := Out.fw (kn_EF (good_movs h0).hin).out _ (Nat.le_refl _)
theorem enc_some {N : Mx} {a b : Nat} {z : Int} (h : N a b = some z) : encM N a b = z := by simp [encM, enc, h]
theorem clo_small {l : List Clm} (h0 : chkF l = 0) (hb : badF l = false) : Bt (cloF l) := (good_movs h0).calm (chk_ok h0).2.2 ((bad_iff h0).1 hb) _ (Nat.le_refl _)
end Go.Proofs.YtfemldhlanoakaaGreatDoor
/- Years that are given to marks one after the other, each within the room that the bounds leave it: mathematics. -/
namespace Go.Proofs.YtfemldhlanoakaaGreatDoor
open Go Go.Em Go.Em.Net
/-- The least and the greatest year that the first marks leave; whether they leave all. -/
def roomI (A : Nat → Nat → Int) (dt : Nat → Bool) (y : Nat → Int) (i : Nat) : Nat → Int × Int × Bool
  | 0 => (-1000000000, 1000000000, true)
  | J + 1 => if dt J = true ∧ A i J ≠ 1000000000 then (max (roomI A dt y i J).1 (y J - A i J), min (roomI A dt y i J).2.1 (y J + A J i), false) else roomI A dt y i J
theorem room_free {A : Nat → Nat → Int} {dt : Nat → Bool} {y : Nat → Int} {i : Nat} : ∀ {n : Nat}, (roomI A dt y i n).2.2 = true ↔ ∀ j, j < n → dt j = true → A i j = 1000000000
  | 0 => ⟨fun _ j h => absurd h (Nat.not_lt_zero j), fun _ => rfl⟩
  | n + 1 => by
    unfold roomI
    split
    · rename_i h
      constructor
      · intro e; cases e
      · intro e; exact absurd (e n (Nat.lt_succ_self n) h.1) h.2
    · rename_i h
      rw [room_free]
      constructor
      · intro e j hj hd
        rcases Nat.lt_or_eq_of_le (Nat.le_of_lt_succ hj) with h1 | h1
        · exact e j h1 hd
        · subst h1
          exact Decidable.byContradiction fun hn => h ⟨hd, hn⟩
      · intro e j hj hd; exact e j (by omega) hd
theorem room_lo {A : Nat → Nat → Int} {dt : Nat → Bool} {y : Nat → Int} {i : Nat} {v : Int} : ∀ {n : Nat}, (roomI A dt y i n).1 ≤ v ↔ -1000000000 ≤ v ∧ ∀ j, j < n → dt j = true → A i j ≠ 1000000000 → y j - A i j ≤ v
  | 0 => ⟨fun h => ⟨h, fun j h => absurd h (Nat.not_lt_zero j)⟩, fun h => h.1⟩
  | n + 1 => by
    unfold roomI
    split
    · rename_i h
      show max (roomI A dt y i n).1 (y n - A i n) ≤ v ↔ _
      rw [Int.max_le, room_lo]
      constructor
      · rintro ⟨⟨a, b⟩, c⟩
        refine ⟨a, fun j hj hd hf => ?_⟩
        rcases Nat.lt_or_eq_of_le (Nat.le_of_lt_succ hj) with h1 | h1
        · exact b j h1 hd hf
        · subst h1; exact c
      · rintro ⟨a, b⟩
        exact ⟨⟨a, fun j hj => b j (by omega)⟩, b n (Nat.lt_succ_self n) h.1 h.2⟩
    · rename_i h
      rw [room_lo]
      constructor
      · rintro ⟨a, b⟩
        refine ⟨a, fun j hj hd hf => ?_⟩
        rcases Nat.lt_or_eq_of_le (Nat.le_of_lt_succ hj) with h1 | h1
        · exact b j h1 hd hf
        · subst h1; exact absurd ⟨hd, hf⟩ h
      · rintro ⟨a, b⟩
        exact ⟨a, fun j hj => b j (by omega)⟩
theorem room_hi {A : Nat → Nat → Int} {dt : Nat → Bool} {y : Nat → Int} {i : Nat} {v : Int} : ∀ {n : Nat}, v ≤ (roomI A dt y i n).2.1 ↔ v ≤ 1000000000 ∧ ∀ j, j < n → dt j = true → A i j ≠ 1000000000 → v ≤ y j + A j i
  | 0 => ⟨fun h => ⟨h, fun j h => absurd h (Nat.not_lt_zero j)⟩, fun h => h.1⟩
  | n + 1 => by
    unfold roomI
    split
    · rename_i h
      show v ≤ min (roomI A dt y i n).2.1 (y n + A n i) ↔ _
      rw [Int.le_min, room_hi]
      constructor
      · rintro ⟨⟨a, b⟩, c⟩
        refine ⟨a, fun j hj hd hf => ?_⟩
        rcases Nat.lt_or_eq_of_le (Nat.le_of_lt_succ hj) with h1 | h1
        · exact b j h1 hd hf
        · subst h1; exact c
      · rintro ⟨a, b⟩
        exact ⟨⟨a, fun j hj => b j (by omega)⟩, b n (Nat.lt_succ_self n) h.1 h.2⟩
    · rename_i h
      rw [room_hi]
      constructor
      · rintro ⟨a, b⟩
        refine ⟨a, fun j hj hd hf => ?_⟩
        rcases Nat.lt_or_eq_of_le (Nat.le_of_lt_succ hj) with h1 | h1
        · exact b j h1 hd hf
        · subst h1; exact absurd ⟨hd, hf⟩ h
      · rintro ⟨a, b⟩
        exact ⟨a, fun j hj => b j (by omega)⟩
/-- Years that break no bound, none far from one that was there at the beginning. -/
structure FOk (n : Nat) (N : Mx) (dt : Nat → Bool) (y : Nat → Int) : Prop where
  kept : Kept N dt y
  root : ∀ j, j < n → dt j = true → ∃ r, r < n ∧ dt r = true ∧ N r j ≠ none ∧ -100000000 ≤ y r ∧ y r ≤ 100000000
theorem FOk.bd {n : Nat} {N : Mx} {dt : Nat → Bool} {y : Nat → Int} (f : FOk n N dt y) (h : Clsd n N) (hb : Bt N) {j : Nat} (hj : j < n) (hd : dt j = true) : -200000000 ≤ y j ∧ y j ≤ 200000000 := by
  obtain ⟨r, hr, h1, h2, h3, h4⟩ := f.root j hj hd
  obtain ⟨c, hc⟩ := Option.ne_none_iff_exists'.1 h2
  obtain ⟨d, hd'⟩ := Option.ne_none_iff_exists'.1 (h.sym h2)
  have a1 := f.kept r j c h1 hd hc
  have a2 := f.kept j r d hd h1 hd'
  have a3 := hb _ _ _ hc
  have a4 := hb _ _ _ hd'
  omega
theorem far_iff {N : Mx} (h : Bt N) {a b : Nat} : encM N a b = 1000000000 ↔ N a b = none := enc_far h

theorem FOk.free {n : Nat} {N : Mx} {dt : Nat → Bool} {y : Nat → Int} (f : FOk n N dt y) (h : Clsd n N) (hb : Bt N) {i : Nat} (hi : i < n) (hd : dt i = false) (hout : Out n N) (hf : (roomI (encM N) dt y i n).2.2 = true) : FOk n N (fun q => if q = i then true else dt q) (fun q => if q = i then 0 else y q) := by
  have hno : ∀ j, dt j = true → N i j = none := fun j hj => by
    by_cases hjn : j < n
    · exact (far_iff hb).1 (room_free.1 hf j hjn hj)
    · exact hout i j (by omega)
  refine ⟨h.put f.kept hi (fun j a hj ha => by rw [hno j hj] at ha; cases ha) (fun j b hj hb' => ?_) hd, fun j hj hdj => ?_⟩
  · have := h.sym (show N j i ≠ none by rw [hb']; simp)
    exact absurd (hno j hj) this
  · by_cases e : j = i
    · subst e
      exact ⟨j, hj, by simp, by rw [h.diag j hj]; simp, by simp, by simp⟩
    · simp only [e, if_false] at hdj
      obtain ⟨r, h1, h2, h3, h4, h5⟩ := f.root j hj hdj
      have hri : r ≠ i := fun e => by subst e; rw [hd] at h2; cases h2
      exact ⟨r, h1, by simp [h2], h3, by simp [hri, h4], by simp [hri, h5]⟩
theorem FOk.tied {n : Nat} {N : Mx} {dt : Nat → Bool} {y : Nat → Int} (f : FOk n N dt y) (h : Clsd n N) (hb : Bt N) {i : Nat} (hi : i < n) (hd : dt i = false) (hout : Out n N) (hf : (roomI (encM N) dt y i n).2.2 = false) :
    (roomI (encM N) dt y i n).1 ≤ (roomI (encM N) dt y i n).2.1 ∧ -300000000 ≤ (roomI (encM N) dt y i n).1 ∧ (roomI (encM N) dt y i n).2.1 ≤ 300000000 ∧
      ∀ v, (roomI (encM N) dt y i n).1 ≤ v → v ≤ (roomI (encM N) dt y i n).2.1 → FOk n N (fun q => if q = i then true else dt q) (fun q => if q = i then v else y q) := by
  have hex : ∃ j, j < n ∧ dt j = true ∧ N i j ≠ none := by
    apply Decidable.byContradiction
    intro hno
    have : (roomI (encM N) dt y i n).2.2 = true := room_free.2 fun j hj hdj => (far_iff hb).2 (Decidable.byContradiction fun hn => hno ⟨j, hj, hdj, hn⟩)
    rw [hf] at this; cases this
  obtain ⟨j0, hj0, hd0, hn0⟩ := hex
  obtain ⟨a0, ha0⟩ := Option.ne_none_iff_exists'.1 hn0
  obtain ⟨b0, hb0⟩ := Option.ne_none_iff_exists'.1 (h.sym hn0)
  have lo0 : y j0 - a0 ≤ (roomI (encM N) dt y i n).1 := by
    have := (room_lo (A := encM N) (dt := dt) (y := y) (i := i) (n := n) (v := (roomI (encM N) dt y i n).1)).1 (Int.le_refl _)
    have := this.2 j0 hj0 hd0 (fun e => hn0 ((far_iff hb).1 e))
    rwa [enc_some ha0] at this
  have hi0 : (roomI (encM N) dt y i n).2.1 ≤ y j0 + b0 := by
    have := (room_hi (A := encM N) (dt := dt) (y := y) (i := i) (n := n) (v := (roomI (encM N) dt y i n).2.1)).1 (Int.le_refl _)
    have := this.2 j0 hj0 hd0 (fun e => hn0 ((far_iff hb).1 e))
    rwa [enc_some hb0] at this
  have hy0 := f.bd h hb hj0 hd0
  have ba := hb _ _ _ ha0
  have bb := hb _ _ _ hb0
  have hle : (roomI (encM N) dt y i n).1 ≤ (roomI (encM N) dt y i n).2.1 := by
    rw [room_lo]
    refine ⟨?_, fun j hj hdj hfj => ?_⟩
    · rw [room_hi]
      refine ⟨by omega, fun k hk hdk hfk => ?_⟩
      have hnk : N i k ≠ none := fun e => hfk ((far_iff hb).2 e)
      obtain ⟨bk, hbk⟩ := Option.ne_none_iff_exists'.1 (h.sym hnk)
      rw [enc_some hbk]
      have := f.bd h hb hk hdk
      have := hb _ _ _ hbk
      omega
    · have hnj : N i j ≠ none := fun e => hfj ((far_iff hb).2 e)
      obtain ⟨aj, haj⟩ := Option.ne_none_iff_exists'.1 hnj
      rw [enc_some haj, room_hi]
      have hyj := f.bd h hb hj hdj
      have := hb _ _ _ haj
      refine ⟨by omega, fun k hk hdk hfk => ?_⟩
      have hnk : N i k ≠ none := fun e => hfk ((far_iff hb).2 e)
      obtain ⟨bk, hbk⟩ := Option.ne_none_iff_exists'.1 (h.sym hnk)
      rw [enc_some hbk]
      exact h.room f.kept hi hdj hdk haj hbk
  refine ⟨hle, by omega, by omega, fun v hv1 hv2 => ⟨h.put f.kept hi (fun j a hj ha => ?_) (fun j b hj hb' => ?_) hd, fun j hj hdj => ?_⟩⟩
  · have hjn : j < n := Decidable.byContradiction fun hn => by rw [hout i j (by omega)] at ha; cases ha
    have := (room_lo.1 hv1).2 j hjn hj (fun e => by rw [(far_iff hb).1 e] at ha; cases ha)
    rwa [enc_some ha] at this
  · have hjn : j < n := Decidable.byContradiction fun hn => by rw [hout j i (by omega)] at hb'; cases hb'
    have hnn : N i j ≠ none := h.sym (by rw [hb']; simp)
    have := (room_hi.1 hv2).2 j hjn hj (fun e => hnn ((far_iff hb).1 e))
    rwa [enc_some hb'] at this
  · by_cases e : j = i
    · subst e
      obtain ⟨r, h1, h2, h3, h4, h5⟩ := f.root j0 hj0 hd0
      have hri : r ≠ j := fun e => by subst e; rw [hd] at h2; cases h2
      obtain ⟨c, hc⟩ := Option.ne_none_iff_exists'.1 h3
      obtain ⟨z, hz, _⟩ := h.via hj0 hc hb0
      exact ⟨r, h1, by simp [h2], by rw [hz]; simp, by simp [hri, h4], by simp [hri, h5]⟩
    · simp only [e, if_false] at hdj
      obtain ⟨r, h1, h2, h3, h4, h5⟩ := f.root j hj hdj
      have hri : r ≠ i := fun e => by subst e; rw [hd] at h2; cases h2
      exact ⟨r, h1, by simp [h2], h3, by simp [hri, h4], by simp [hri, h5]⟩
/-! ### All marks in turn -/
/-- The number that stands behind those that were taken. -/
def pickI (p : List Int) (t : Nat) (c : Int) : Int := if p = [] ∨ c < 1 then 0 else p.getD (t % p.length) 0 % c
theorem pick_in (p : List Int) (t : Nat) {c : Int} (hc : 1 ≤ c) : 0 ≤ pickI p t c ∧ pickI p t c < c := by
  unfold pickI
  split
  · omega
  · exact ⟨Int.emod_nonneg _ (by omega), Int.emod_lt_of_pos _ (by omega)⟩
structure Fs where
  dt : Nat → Bool
  y : Nat → Int
  t : Nat
def Fs.put (s : Fs) (i : Nat) (v : Int) (t : Nat) : Fs := ⟨fun q => if q = i then true else s.dt q, fun q => if q = i then v else s.y q, t⟩
def fillS (A : Nat → Nat → Int) (n : Nat) (p : List Int) (s : Fs) (i : Nat) : Fs :=
  if s.dt i = true then s
  else if (roomI A s.dt s.y i n).2.2 = true then s.put i 0 s.t
  else s.put i ((roomI A s.dt s.y i n).1 + pickI p s.t ((roomI A s.dt s.y i n).2.1 - (roomI A s.dt s.y i n).1 + 1)) (s.t + 1)
def fillN (A : Nat → Nat → Int) (n : Nat) (p : List Int) (s : Fs) : Nat → Fs
  | 0 => s
  | i + 1 => fillS A n p (fillN A n p s i) i
theorem FOk.fillS {n : Nat} {N : Mx} {s : Fs} (f : FOk n N s.dt s.y) (h : Clsd n N) (hb : Bt N) (hout : Out n N) (p : List Int) {i : Nat} (hi : i < n) : FOk n N (fillS (encM N) n p s i).dt (fillS (encM N) n p s i).y ∧ (Go.Proofs.YtfemldhlanoakaaGreatDoor.fillS (encM N) n p s i).dt i = true := by
  unfold Go.Proofs.YtfemldhlanoakaaGreatDoor.fillS
  split
  · rename_i h1; exact ⟨f, h1⟩
  · rename_i h1
    have h1 : s.dt i = false := by simpa using h1
    split
    · rename_i h2
      exact ⟨f.free h hb hi h1 hout h2, by simp [Fs.put]⟩
    · rename_i h2
      obtain ⟨a1, a2, a3, a4⟩ := f.tied h hb hi h1 hout (by simpa using h2)
      obtain ⟨b1, b2⟩ := pick_in p s.t (c := (roomI (encM N) s.dt s.y i n).2.1 - (roomI (encM N) s.dt s.y i n).1 + 1) (by omega)
      exact ⟨a4 _ (by omega) (by omega), by simp [Fs.put]⟩
theorem fillS_ne {A : Nat → Nat → Int} {n : Nat} {p : List Int} {s : Fs} {i q : Nat} (h : q ≠ i) : (fillS A n p s i).dt q = s.dt q ∧ (fillS A n p s i).y q = s.y q := by
  unfold fillS
  split
  · exact ⟨rfl, rfl⟩
  · split <;> simp [Fs.put, h]
theorem fillS_keep {A : Nat → Nat → Int} {n : Nat} {p : List Int} {s : Fs} {i q : Nat} (h : s.dt q = true) : (fillS A n p s i).dt q = true ∧ (fillS A n p s i).y q = s.y q := by
  by_cases e : q = i
  · subst e; unfold fillS; rw [if_pos h]; exact ⟨h, rfl⟩
  · obtain ⟨a, b⟩ := fillS_ne (A := A) (n := n) (p := p) (s := s) e
    exact ⟨by rw [a, h], b⟩
theorem fillN_ok {n : Nat} {N : Mx} {s : Fs} (f : FOk n N s.dt s.y) (h : Clsd n N) (hb : Bt N) (hout : Out n N) (p : List Int) : ∀ k, k ≤ n → FOk n N (fillN (encM N) n p s k).dt (fillN (encM N) n p s k).y ∧ ∀ i, i < k → (fillN (encM N) n p s k).dt i = true
  | 0, _ => ⟨f, fun i hi => absurd hi (Nat.not_lt_zero i)⟩
  | k + 1, hk => by
    obtain ⟨a, b⟩ := fillN_ok f h hb hout p k (by omega)
    obtain ⟨c, d⟩ := FOk.fillS (s := fillN (encM N) n p s k) a h hb hout p (i := k) (by omega)
    refine ⟨c, fun i hi => ?_⟩
    rcases Nat.lt_or_eq_of_le (Nat.le_of_lt_succ hi) with e | e
    · exact (fillS_keep (b i e)).1
    · subst e; exact d
theorem fillN_keep {A : Nat → Nat → Int} {n : Nat} {p : List Int} {s : Fs} {k q : Nat} (h : (fillN A n p s k).dt q = true) : ∀ m, (fillN A n p s (k + m)).dt q = true ∧ (fillN A n p s (k + m)).y q = (fillN A n p s k).y q
  | 0 => ⟨h, rfl⟩
  | m + 1 => by
    obtain ⟨a, b⟩ := fillN_keep h m
    obtain ⟨c, d⟩ := fillS_keep (A := A) (n := n) (p := p) (i := k + m) a
    exact ⟨c, by rw [← b]; exact d⟩
end Go.Proofs.YtfemldhlanoakaaGreatDoor
/- Whether a net is closed, by the program: the closure of claims is. -/
namespace Go.Proofs.YtfemldhlanoakaaGreatDoor
open Go Go.Em Go.Em.Net
set_option maxRecDepth 100000
def nD (M : List Int) (A : Nat → Nat → Int) : D := .agg [intsD M, rowsD M.length A]
theorem rows_canonL (n : Nat) (A : Nat → Nat → Int) : D.canonL ((List.range n).map fun i => D.sl false (yCs n (A i))) = true := canonL_map _ (fun i => by simp [yCs_canon]) _
theorem yCs_at {n : Nat} {y : Nat → Int} {j : Nat} (hj : j < n) (h : j < (yCs n y).length) : (yCs n y)[j]'h = D.int (y j) := Option.some.inj (by rw [← List.getElem?_eq_getElem h]; exact yCs_get hj)
theorem far_run (M : List Int) (A : Nat → Nat → Int) {i j : Nat} (hi : i < M.length) (hj : j < M.length) {n : Nat} (hn : 1 ≤ n) : pureCall (rc pg n) 23 [nD M A, D.int i, D.int j] = some (.ret (D.bool (A i j == 1000000000))) := by
  obtain ⟨m, rfl, e⟩ := body (pg := pg) (f := 23) (args := [nD M A, D.int i, D.int j]) (show 0 < n by omega) rfl rfl
  rw [e]
  have y1 := yCs_len M.length (A i)
  have g1 := fun h' => yCs_at (y := A i) hj h'
  simp [-beq_iff_eq, k23, Env.v_ini, nD, intsD, rowsD, D.cells, D.one, hi, hj, y1, g1]
end Go.Proofs.YtfemldhlanoakaaGreatDoor
/- Whether a net is closed, by the program: the loops, and the answer. -/
namespace Go.Proofs.YtfemldhlanoakaaGreatDoor
open Go Go.Em Go.Em.Net
set_option maxRecDepth 100000
end Go.Proofs.YtfemldhlanoakaaGreatDoor
/- Whether a net is closed, by the program: the other loops, and the answer. -/
namespace Go.Proofs.YtfemldhlanoakaaGreatDoor
open Go Go.Em Go.Em.Net
set_option maxRecDepth 100000
end Go.Proofs.YtfemldhlanoakaaGreatDoor
/- The closure of claims, by the program's exported function; nets that are equal; claims with one more. -/
namespace Go.Proofs.YtfemldhlanoakaaGreatDoor
open Go Go.Em Go.Em.Net
set_option maxRecDepth 100000
theorem yCs_ints (n : Nat) (y : Nat → Int) : yCs n y = ((List.range n).map y).map D.int := by unfold yCs; rw [List.map_map]; rfl
end Go.Proofs.YtfemldhlanoakaaGreatDoor
/- The closure does not depend on the order of the claims: rotations; one more claim; places; remainders. -/
namespace Go.Proofs.YtfemldhlanoakaaGreatDoor
open Go Go.Em Go.Em.Net
set_option maxRecDepth 100000
theorem mod_run (p n : Int) (h0 : 0 < n) (hn : n ≤ 4611686018427387904) {m : Nat} (hm : 1 ≤ m) : pureCall (rc pg m) 71 [D.int p, D.int n] = some (.ret (D.int (p % n))) := by
  obtain ⟨k, rfl, e⟩ := body (pg := pg) (f := 71) (args := [D.int p, D.int n]) (show 0 < m by omega) rfl rfl
  rw [e]
  have hne : n ≠ 0 := by omega
  have h1 : p.tmod n < n := Int.tmod_lt_of_pos p h0
  have h2 : -n < p.tmod n := by have := Int.lt_tmod_of_pos p h0; omega
  have w1 : IntKind.i64.wrap (p.tmod n + n) = p.tmod n + n := wrap_i64 (by omega) (by omega)
  have e1 : (p.tmod n + n).tmod n = p % n := by
    rw [Int.tmod_eq_emod_of_nonneg (by omega), Int.add_emod_right]
    have : p.tmod n % n = p % n := by
      have h3 : p.tmod n = p - n * p.tdiv n := by have := Int.tmod_add_mul_tdiv p n; omega
      rw [h3, Int.sub_emod, Int.mul_emod_right, Int.sub_zero, Int.emod_emod_of_dvd _ (Int.dvd_refl n)]
    exact this
  simp [k71, Env.v_ini, bin_rem hne, w1, e1]
theorem ix_place {v : Int} : ∀ {M : List Int} {i : Nat}, v ∈ M → ixP (· == v) i M = ((i + placeF M v : Nat) : Int)
  | [], _, h => absurd h List.not_mem_nil
  | a :: M, i, h => by
    unfold ixP placeF
    rw [List.idxOf_cons]
    by_cases e : a = v
    · subst e; simp
    · have e' : (a == v) = false := by simpa using e
      have hv : v ∈ M := by
        rcases List.mem_cons.1 h with h | h
        · exact absurd h.symm e
        · exact h
      have := ix_place (i := i + 1) hv
      unfold placeF at this
      simp only [e', Bool.false_eq_true, if_false, cond_false]
      rw [this]
      congr 1
      omega
end Go.Proofs.YtfemldhlanoakaaGreatDoor
