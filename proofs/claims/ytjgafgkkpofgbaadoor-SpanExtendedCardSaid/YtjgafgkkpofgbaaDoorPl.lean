/- The place of a mark that may not be there. -/
import Derived.Test.YtjgafgkkpofgbaaDoorKp1
import Derived.Test.YtjgafgkkpofgbaaDoorMul
namespace Go.Proofs.YtjgafgkkpofgbaaDoor
open Go Go.Em
set_option maxRecDepth 100000
def PI2 (M : List Int) (v : Int) (p : Nat) (k : Nat) (s : St) : Prop := ∃ (x : Env 54) (h : Heap) (i j : Nat), s = ⟨x.l, h, []⟩ ∧ j - i ≤ k ∧ i ≤ p ∧ p ≤ j ∧ j ≤ M.length ∧ x.v 0 = intsD M ∧ x.v 1 = D.int v ∧ x.v 6 = D.int M.length ∧ x.v 7 = D.int i ∧ x.v 8 = D.int j
def PQ2 (M : List Int) (v : Int) (p : Nat) (x : Ex) (s : St) : Prop := x = .exit 0 ∧ ∃ (x : Env 54) (h : Heap), s = ⟨x.l, h, []⟩ ∧ x.v 0 = intsD M ∧ x.v 1 = D.int v ∧ x.v 6 = D.int M.length ∧ x.v 7 = D.int p
set_option maxHeartbeats 1000000 in
theorem search_round2 (M : List Int) (hl : M.length ≤ 4000) (v : Int) (p : Nat) (hpv : ∀ q (h : q < M.length), M[q] < v ↔ q < p) : ∀ n, 2 ≤ n → ∀ k s, PI2 M v p k s → Res (k95l0.ev ⟨pg, 54, none⟩ (rc pg n) s) (Rnd (PI2 M v p) (PQ2 M v p) k) := by
  rintro n hn k s ⟨x, h, i, j, rfl, hk, hi, hj, hjl, v0, v1, v6, v7, v8⟩
  simp only [intsD] at v0
  by_cases hij : i < j
  · obtain ⟨q, hq⟩ : ∃ q, q = (i + j) / 2 := ⟨_, rfl⟩
    have hqM : q < M.length := by omega
    obtain ⟨w, hw⟩ : ∃ w, M[q] = w := ⟨_, rfl⟩
    have hcmp : w < v ↔ q < p := by rw [← hw]; exact hpv q hqM
    have w1 : IntKind.i64.wrap ((i : Int) + j) = ((i + j : Nat) : Int) := by rw [wrap_i64 (by omega) (by omega)]; omega
    have w2 : IntKind.u64.wrap ((i + j : Nat) : Int) = ((i + j : Nat) : Int) := wrap_u64 (by omega) (by omega)
    have w3 : IntKind.i64.wrap (((i + j) / 2 : Nat) : Int) = (q : Int) := by rw [wrap_i64 (by omega) (by omega)]; omega
    have w4 : IntKind.i64.wrap ((q : Int) + 1) = (q : Int) + 1 := wrap_i64 (by omega) (by omega)
    have sh := bin_shr1 (i + j)
    have hls := fun h => call_of (h := h) (pg := pg) (f := 116) (args := [D.int w, D.int v]) rfl (by simp) (@less_run w v n hn)
    obtain ⟨u, hu⟩ : ∃ u, u = i + j := ⟨_, rfl⟩
    have hq2 : (i + j) / 2 = q := hq.symm
    rw [hq2] at w3 sh
    rw [← hu] at w1 w2 sh
    by_cases hlt : w < v
    · simp [k95l0, v0, v1, v7, v8, hij, w1, w2, w3, sh, hqM, hw, hls, hlt, w4, D.cells]
      exact ⟨k - 1, by omega, _, _, q + 1, j, rfl, by omega, by have := hcmp.1 hlt; omega, hj, hjl, by simp [v0, intsD], by simp [v1], by simp [v6], by simp, by simp [v8]⟩
    · simp [k95l0, v0, v1, v7, v8, hij, w1, w2, w3, sh, hqM, hw, hls, hlt, D.cells]
      exact ⟨k - 1, by omega, _, _, i, q, rfl, by omega, hi, by have : ¬ q < p := fun h => hlt (hcmp.2 h); omega, by omega, by simp [v0, intsD], by simp [v1], by simp [v6], by simp [v7], by simp⟩
  · have hip : i = p := by omega
    subst hip
    have hij' : ¬ i < j := hij
    simp [k95l0, v7, v8, hij']
    exact ⟨rfl, _, _, rfl, by simp [v0, intsD], by simp [v1], by simp [v6], by simp [v7]⟩
/-- How many are less. -/
def lessN (M : List Int) (v : Int) : Nat := (M.filter fun x => decide (x < v)).length
theorem lessN_le (M : List Int) (v : Int) : lessN M v ≤ M.length := List.length_filter_le _ _
theorem lessN_is : ∀ (M : List Int) (v : Int), Rise M → ∀ q (h : q < M.length), M[q] < v ↔ q < lessN M v
  | a :: M, v, hM, q, h => by
    unfold Rise at hM
    rw [List.pairwise_cons] at hM
    have ih := lessN_is M v hM.2
    unfold lessN at ih ⊢
    by_cases ha : a < v
    · rw [List.filter_cons_of_pos (by simpa using ha)]
      cases q with
      | zero => simp [ha]
      | succ q => simpa using ih q (by simpa using h)
    · have hno : ∀ x ∈ M, ¬ x < v := fun x hx => by have := hM.1 x hx; omega
      have hnil : M.filter (fun x => decide (x < v)) = [] := List.filter_eq_nil_iff.2 fun x hx => by simpa using hno x hx
      rw [List.filter_cons_of_neg (by simpa using ha), hnil]
      cases q with
      | zero => simp [ha]
      | succ q =>
        have := hno (M[q]'(by simpa using h)) (List.getElem_mem _)
        simp [this]
theorem nan81_run (a : Int) {n : Nat} (hn : 1 ≤ n) : pureCall (rc pg n) 117 [D.int a] = some (.ret (D.bool false)) := by
  obtain ⟨m, rfl, e⟩ := body (pg := pg) (f := 117) (args := [D.int a]) hn rfl rfl
  rw [e]
  simp [k117, Env.v_ini]
theorem search_none (M : List Int) (hM : Rise M) (hl : M.length ≤ 4000) (v : Int) (hv : v ∉ M) {n : Nat} (hn : M.length + 10 ≤ n) : pureCall (rc pg n) 95 [intsD M, D.int v] = some (.ret (.tup [D.int (lessN M v), D.bool false])) := by
  obtain ⟨m, rfl, e⟩ := body (pg := pg) (f := 95) (args := [intsD M, D.int v]) (show 0 < n by omega) rfl rfl
  rw [e]
  have hle := lessN_le M v
  have c81 := fun a h => call_of (h := h) (pg := pg) (f := 117) (args := [D.int a]) rfl (by simp) (@nan81_run a m (by omega))
  simp [k95, Env.v_ini, intsD, ev_loop]
  refine Res.endsAfter (lp_rule 2 (PI2 M v (lessN M v)) _ (search_round2 M hl v (lessN M v) (lessN_is M v hM)) M.length m _ (by omega) ⟨_, _, 0, M.length, rfl, by omega, by omega, by omega, by omega, by simp [Env.v_ini, intsD], by simp [Env.v_ini], by simp, by simp, by simp⟩) ?_
  rintro x s ⟨rfl, x, h, rfl, v0, v1, v6, v7⟩
  simp only [intsD] at v0
  by_cases hp : lessN M v < M.length
  · obtain ⟨w, hw⟩ : ∃ w, M[lessN M v] = w := ⟨_, rfl⟩
    have hne : (w == v) = false := by
      have : w ≠ v := fun e => hv (by rw [← e, ← hw]; exact List.getElem_mem hp)
      simpa using this
    simp [-beq_eq_false_iff_ne, v0, v1, v6, v7, hp, D.cells, hw, hne, c81]
  · simp [v0, v1, v6, v7, hp, D.cells]
theorem place_none (M : List Int) (hM : Rise M) (hl : M.length ≤ 4000) (v : Int) (hv : v ∉ M) {n : Nat} (hn : M.length + 11 ≤ n) : pureCall (rc pg n) 59 [intsD M, D.int v] = some (.ret (D.int (-1))) := by
  obtain ⟨m, rfl, e⟩ := body (pg := pg) (f := 59) (args := [intsD M, D.int v]) (show 0 < n by omega) rfl rfl
  rw [e]
  have h1 := fun h => call_of (h := h) (pg := pg) (f := 95) (args := [intsD M, D.int v]) rfl (by simp [intsD, ints_canonL]) (@search_none M hM hl v hv m (by omega))
  simp only [intsD] at h1
  simp [k59, Env.v_ini, intsD, h1]
end Go.Proofs.YtjgafgkkpofgbaaDoor
/- The closure of claims between two marks, by the program. -/
namespace Go.Proofs.YtjgafgkkpofgbaaDoor
open Go Go.Em Go.Em.Net
set_option maxRecDepth 100000
def posF (M : List Int) (v : Int) : Int := if v ∈ M then placeF M v else -1
theorem place_all (M : List Int) (hM : Rise M) (hl : M.length ≤ 64) (v : Int) {n : Nat} (hn : 80 ≤ n) : pureCall (rc pg n) 59 [intsD M, D.int v] = some (.ret (D.int (posF M v))) := by
  unfold posF
  by_cases hv : v ∈ M
  · obtain ⟨h1, h2⟩ := place_at hv
    have := @place_run M hM (by omega) _ h1 n (by omega)
    rw [h2] at this
    rw [if_pos hv]; exact this
  · rw [if_neg hv]; exact place_none M hM (by omega) v hv (by omega)
end Go.Proofs.YtjgafgkkpofgbaaDoor
/- Bounds, by the program. -/
namespace Go.Proofs.YtjgafgkkpofgbaaDoor
open Go Go.Em Go.Em.Net
set_option maxRecDepth 100000
end Go.Proofs.YtjgafgkkpofgbaaDoor
