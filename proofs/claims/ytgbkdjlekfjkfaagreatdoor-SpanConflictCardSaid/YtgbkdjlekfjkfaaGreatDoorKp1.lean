/- The place of a mark among marks that rise; lists of years. -/
import Derived.Test.YtgbkdjlekfjkfaaGreatDoorTz
import Derived.Test.YtgbkdjlekfjkfaaGreatDoorBnd
import Derived.Test.YtgbkdjlekfjkfaaGreatDoorClaim
namespace Go.Proofs.YtgbkdjlekfjkfaaGreatDoor
open Go Go.Em
set_option maxRecDepth 100000
theorem nan_run (a : Int) {n : Nat} (hn : 1 ≤ n) : pureCall (rc pg n) 126 [D.int a] = some (.ret (D.bool false)) := by
  obtain ⟨m, rfl, e⟩ := body (pg := pg) (f := 126) (args := [D.int a]) hn rfl rfl
  rw [e]
  simp [k126, Env.v_ini]
theorem less_run (a b : Int) {n : Nat} (hn : 2 ≤ n) : pureCall (rc pg n) 170 [D.int a, D.int b] = some (.ret (D.bool (decide (a < b)))) := by
  obtain ⟨m, rfl, e⟩ := body (pg := pg) (f := 170) (args := [D.int a, D.int b]) (show 0 < n by omega) rfl rfl
  rw [e]
  have h1 := fun a h => call_of (h := h) (pg := pg) (f := 126) (args := [D.int a]) rfl (by simp) (@nan_run a m (by omega))
  simp [k170, Env.v_ini, h1]
theorem bin_shr1 (a : Nat) : bin .shr (.int .u64 (a : Int)) (.int .u64 1) = some (.int .u64 ((a / 2 : Nat) : Int)) := by
  have h : bin .shr (.int .u64 (a : Int)) (.int .u64 1) = some (.int .u64 ((a : Int).fdiv (2 ^ 1))) := rfl
  rw [h]
  congr 2
  rw [Int.fdiv_eq_ediv_of_nonneg _ (by omega)]
  simp
def BI (M : List Int) (v : Int) (p : Nat) (k : Nat) (s : St) : Prop := ∃ (x : Env 54) (h : Heap) (i j : Nat), s = ⟨x.l, h, []⟩ ∧ j - i ≤ k ∧ i ≤ p ∧ p ≤ j ∧ j ≤ M.length ∧ x.v 0 = intsD M ∧ x.v 1 = D.int v ∧ x.v 6 = D.int M.length ∧ x.v 7 = D.int i ∧ x.v 8 = D.int j
def BQ (M : List Int) (v : Int) (p : Nat) (x : Ex) (s : St) : Prop := x = .exit 0 ∧ ∃ (x : Env 54) (h : Heap), s = ⟨x.l, h, []⟩ ∧ x.v 0 = intsD M ∧ x.v 1 = D.int v ∧ x.v 6 = D.int M.length ∧ x.v 7 = D.int p
set_option maxHeartbeats 1000000 in
theorem search_round (M : List Int) (hM : Rise M) (hl : M.length ≤ 4000) (p : Nat) (hp : p < M.length) : ∀ n, 2 ≤ n → ∀ k s, BI M M[p] p k s → Res (k140l0.ev ⟨pg, 54, none⟩ (rc pg n) s) (Rnd (BI M M[p] p) (BQ M M[p] p) k) := by
  rintro n hn k s ⟨x, h, i, j, rfl, hk, hi, hj, hjl, v0, v1, v6, v7, v8⟩
  simp only [intsD] at v0
  by_cases hij : i < j
  · obtain ⟨q, hq⟩ : ∃ q, q = (i + j) / 2 := ⟨_, rfl⟩
    have hqM : q < M.length := by omega
    obtain ⟨w, hw⟩ : ∃ w, M[q] = w := ⟨_, rfl⟩
    obtain ⟨v, hv⟩ : ∃ v, M[p] = v := ⟨_, rfl⟩
    have hcmp : w < v ↔ q < p := by
      rw [← hw, ← hv]
      constructor
      · intro hlt
        apply Decidable.byContradiction; intro hn'
        rcases Nat.lt_or_eq_of_le (show p ≤ q by omega) with e | e
        · have := List.pairwise_iff_getElem.1 hM p q hp hqM e; omega
        · subst e; omega
      · intro hlt
        exact List.pairwise_iff_getElem.1 hM q p hqM hp hlt
    have w1 : IntKind.i64.wrap ((i : Int) + j) = ((i + j : Nat) : Int) := by rw [wrap_i64 (by omega) (by omega)]; omega
    have w2 : IntKind.u64.wrap ((i + j : Nat) : Int) = ((i + j : Nat) : Int) := wrap_u64 (by omega) (by omega)
    have w3 : IntKind.i64.wrap (((i + j) / 2 : Nat) : Int) = (q : Int) := by rw [wrap_i64 (by omega) (by omega)]; omega
    have w4 : IntKind.i64.wrap ((q : Int) + 1) = (q : Int) + 1 := wrap_i64 (by omega) (by omega)
    have sh := bin_shr1 (i + j)
    have hls := fun h => call_of (h := h) (pg := pg) (f := 170) (args := [D.int w, D.int v]) rfl (by simp) (@less_run w v n hn)
    obtain ⟨u, hu⟩ : ∃ u, u = i + j := ⟨_, rfl⟩
    have hq2 : (i + j) / 2 = q := hq.symm
    rw [hq2] at w3 sh
    rw [← hu] at w1 w2 sh
    rw [hv] at v1 ⊢
    by_cases hlt : w < v
    · simp [k140l0, v0, v1, v7, v8, hij, w1, w2, w3, sh, hqM, hw, hls, hlt, w4, D.cells]
      exact ⟨k - 1, by omega, _, _, q + 1, j, rfl, by omega, by have := hcmp.1 hlt; omega, hj, hjl, by simp [v0, intsD], by simp [v1], by simp [v6], by simp, by simp [v8]⟩
    · simp [k140l0, v0, v1, v7, v8, hij, w1, w2, w3, sh, hqM, hw, hls, hlt, D.cells]
      exact ⟨k - 1, by omega, _, _, i, q, rfl, by omega, hi, by have : ¬ q < p := fun h => hlt (hcmp.2 h); omega, by omega, by simp [v0, intsD], by simp [v1], by simp [v6], by simp [v7], by simp⟩
  · have hip : i = p := by omega
    subst hip
    have hij' : ¬ i < j := hij
    simp [k140l0, v7, v8, hij']
    exact ⟨rfl, _, _, rfl, by simp [v0, intsD], by simp [v1], by simp [v6], by simp [v7]⟩
theorem search_run (M : List Int) (hM : Rise M) (hl : M.length ≤ 4000) (p : Nat) (hp : p < M.length) {n : Nat} (hn : M.length + 10 ≤ n) : pureCall (rc pg n) 140 [intsD M, D.int M[p]] = some (.ret (.tup [D.int p, D.bool true])) := by
  obtain ⟨m, rfl, e⟩ := body (pg := pg) (f := 140) (args := [intsD M, D.int M[p]]) (show 0 < n by omega) rfl rfl
  rw [e]
  simp [k140, Env.v_ini, intsD, ev_loop]
  refine Res.endsAfter (lp_rule 2 (BI M M[p] p) _ (search_round M hM hl p hp) M.length m _ (by omega) ⟨_, _, 0, M.length, rfl, by omega, by omega, by omega, by omega, by simp [Env.v_ini, intsD], by simp [Env.v_ini], by simp, by simp, by simp⟩) ?_
  rintro x s ⟨rfl, x, h, rfl, v0, v1, v6, v7⟩
  simp only [intsD] at v0
  simp [v0, v1, v6, v7, hp, D.cells]
theorem place_run (M : List Int) (hM : Rise M) (hl : M.length ≤ 4000) (p : Nat) (hp : p < M.length) {n : Nat} (hn : M.length + 11 ≤ n) : pureCall (rc pg n) 100 [intsD M, D.int M[p]] = some (.ret (D.int p)) := by
  obtain ⟨m, rfl, e⟩ := body (pg := pg) (f := 100) (args := [intsD M, D.int M[p]]) (show 0 < n by omega) rfl rfl
  rw [e]
  have h1 := fun h => call_of (h := h) (pg := pg) (f := 140) (args := [intsD M, D.int M[p]]) rfl (by simp [intsD, ints_canonL]) (@search_run M hM hl p hp m (by omega))
  simp only [intsD] at h1
  simp [k100, Env.v_ini, intsD, h1]
structure Dt where
  m : Int
  y : Int
def dtC (d : Dt) : List D := [D.int d.m, D.int d.y]
def dtD (d : Dt) : D := .agg (dtC d)
def dtsD (l : List Dt) : D := .sl false (l.map dtD)
end Go.Proofs.YtgbkdjlekfjkfaaGreatDoor
/- Lists of years, by the document's own functions. -/
namespace Go.Proofs.YtgbkdjlekfjkfaaGreatDoor
open Go Go.Em
set_option maxRecDepth 100000
end Go.Proofs.YtgbkdjlekfjkfaaGreatDoor
/- Whether years are a chronology of claims: by the program and by the document. -/
namespace Go.Proofs.YtgbkdjlekfjkfaaGreatDoor
open Go Go.Em
set_option maxRecDepth 100000
end Go.Proofs.YtgbkdjlekfjkfaaGreatDoor
/- Whether years are a chronology of claims, by the program; the law. -/
namespace Go.Proofs.YtgbkdjlekfjkfaaGreatDoor
open Go Go.Em
set_option maxRecDepth 100000
end Go.Proofs.YtgbkdjlekfjkfaaGreatDoor
/- Years kept by claims: the program's answer; the law. -/
namespace Go.Proofs.YtgbkdjlekfjkfaaGreatDoor
open Go Go.Em
set_option maxRecDepth 100000
end Go.Proofs.YtgbkdjlekfjkfaaGreatDoor
