/- The place of a mark that may not be there. -/
import Derived.Test.YtlkpikdfbodhoaaDoorKp1
import Derived.Test.YtlkpikdfbodhoaaDoorMul
import Derived.Test.YtlkpikdfbodhoaaDoorEmNet
namespace Go.Proofs.YtlkpikdfbodhoaaDoor
open Go Go.Em
set_option maxRecDepth 100000
def PI2 (M : List Int) (v : Int) (p : Nat) (k : Nat) (s : St) : Prop := ∃ (x : Env 54) (h : Heap) (i j : Nat), s = ⟨x.l, h, []⟩ ∧ j - i ≤ k ∧ i ≤ p ∧ p ≤ j ∧ j ≤ M.length ∧ x.v 0 = intsD M ∧ x.v 1 = D.int v ∧ x.v 6 = D.int M.length ∧ x.v 7 = D.int i ∧ x.v 8 = D.int j
def PQ2 (M : List Int) (v : Int) (p : Nat) (x : Ex) (s : St) : Prop := x = .exit 0 ∧ ∃ (x : Env 54) (h : Heap), s = ⟨x.l, h, []⟩ ∧ x.v 0 = intsD M ∧ x.v 1 = D.int v ∧ x.v 6 = D.int M.length ∧ x.v 7 = D.int p
set_option maxHeartbeats 1000000 in
theorem search_round2 (M : List Int) (hl : M.length ≤ 4000) (v : Int) (p : Nat) (hpv : ∀ q (h : q < M.length), M[q] < v ↔ q < p) : ∀ n, 2 ≤ n → ∀ k s, PI2 M v p k s → Res (k98l0.ev ⟨pg, 54, none⟩ (rc pg n) s) (Rnd (PI2 M v p) (PQ2 M v p) k) := by
  rintro n hn k s ⟨x, h, i, j, rfl, hk, hi, hj, hjl, v0, v1, v6, v7, v8⟩
  simp only [intsD] at v0
  by_cases hij : i < j
  · obtain ⟨q, hq⟩ : ∃ q, q = (i + j) / 2 := ⟨_, rfl⟩
    have hqM : q < M.length := by omega
    obtain ⟨w, hw⟩ : ∃ w, M[q] = w := ⟨_, rfl⟩
    have hcmp : w < v ↔ q < p := by rw [← hw]; exact hpv q hqM
    have w1 : IntKind.i64.wrap ((i : Int) + j) = ((i + j : Nat) : Int) := by rw [wrap_i64 (by omega) (by omega)]; omega
    have w2 : IntKind.u64.wrap ((i + j : Nat) : Int) = ((i + j : Nat) : Int) := wrap_u64 (by omega) (by omega)
    have w3 : IntKind.i64.wrap (((i + j) / 2 : Nat) : Int) = (q : Int) := by rw [wrap_i64 (by omega) (by omega)]; omega
    have w4 : IntKind.i64.wrap ((q : Int) + 1) = (q : Int) + 1 := wrap_i64 (by omega) (by omega)
    have sh := bin_shr1 (i + j)
    have hls := fun h => call_of (h := h) (pg := pg) (f := 117) (args := [D.int w, D.int v]) rfl (by simp) (@less_run w v n hn)
    obtain ⟨u, hu⟩ : ∃ u, u = i + j := ⟨_, rfl⟩
    have hq2 : (i + j) / 2 = q := hq.symm
    rw [hq2] at w3 sh
    rw [← hu] at w1 w2 sh
    by_cases hlt : w < v
    · simp [k98l0, v0, v1, v7, v8, hij, w1, w2, w3, sh, hqM, hw, hls, hlt, w4, D.cells]
      exact ⟨k - 1, by omega, _, _, q + 1, j, rfl, by omega, by have := hcmp.1 hlt; omega, hj, hjl, by simp [v0, intsD], by simp [v1], by simp [v6], by simp, by simp [v8]⟩
    · simp [k98l0, v0, v1, v7, v8, hij, w1, w2, w3, sh, hqM, hw, hls, hlt, D.cells]
      exact ⟨k - 1, by omega, _, _, i, q, rfl, by omega, hi, by have : ¬ q < p := fun h => hlt (hcmp.2 h); omega, by omega, by simp [v0, intsD], by simp [v1], by simp [v6], by simp [v7], by simp⟩
  · have hip : i = p := by omega
    subst hip
    have hij' : ¬ i < j := hij
    simp [k98l0, v7, v8, hij']
    exact ⟨rfl, _, _, rfl, by simp [v0, intsD], by simp [v1], by simp [v6], by simp [v7]⟩
def lessN (M : List Int) (v : Int) : Nat := (M.filter fun x => decide (x < v)).length
theorem lessN_le (M : List Int) (v : Int) : lessN M v ≤ M.length := List.length_filter_le _ _
theorem lessN_is : ∀ (M : List Int) (v : Int), Rise M → ∀ q (h : q < M.length), M[q] < v ↔ q < lessN M v
  | a :: M, v, hM, q, h => by
    unfold Rise at hM
    rw [List.pairwise_cons] at hM
    have ih := lessN_is M v hM.2
    unfold lessN at ih ⊢
    by_cases ha : a < v
    · rw [List.filter_cons_of_pos (by simpa using ha)]
      cases q with
      | zero => simp [ha]
      | succ q => simpa using ih q (by simpa using h)
    · have hno : ∀ x ∈ M, ¬ x < v := fun x hx => by have := hM.1 x hx; omega
      have hnil : M.filter (fun x => decide (x < v)) = [] := List.filter_eq_nil_iff.2 fun x hx => by simpa using hno x hx
      rw [List.filter_cons_of_neg (by simpa using ha), hnil]
      cases q with
      | zero => simp [ha]
      | succ q =>
        have := hno (M[q]'(by simpa using h)) (List.getElem_mem _)
        simp [this]
theorem nan81_run (a : Int) {n : Nat} (hn : 1 ≤ n) : pureCall (rc pg n) 118 [D.int a] = some (.ret (D.bool false)) := by
  obtain ⟨m, rfl, e⟩ := body (pg := pg) (f := 118) (args := [D.int a]) hn rfl rfl
  rw [e]
  simp [k118, Env.v_ini]
theorem search_none (M : List Int) (hM : Rise M) (hl : M.length ≤ 4000) (v : Int) (hv : v ∉ M) {n : Nat} (hn : M.length + 10 ≤ n) : pureCall (rc pg n) 98 [intsD M, D.int v] = some (.ret (.tup [D.int (lessN M v), D.bool false])) := by
  obtain ⟨m, rfl, e⟩ := body (pg := pg) (f := 98) (args := [intsD M, D.int v]) (show 0 < n by omega) rfl rfl
  rw [e]
  have hle := lessN_le M v
  have c81 := fun a h => call_of (h := h) (pg := pg) (f := 118) (args := [D.int a]) rfl (by simp) (@nan81_run a m (by omega))
  simp [k98, Env.v_ini, intsD, ev_loop]
  refine Res.endsAfter (lp_rule 2 (PI2 M v (lessN M v)) _ (search_round2 M hl v (lessN M v) (lessN_is M v hM)) M.length m _ (by omega) ⟨_, _, 0, M.length, rfl, by omega, by omega, by omega, by omega, by simp [Env.v_ini, intsD], by simp [Env.v_ini], by simp, by simp, by simp⟩) ?_
  rintro x s ⟨rfl, x, h, rfl, v0, v1, v6, v7⟩
  simp only [intsD] at v0
  by_cases hp : lessN M v < M.length
  · obtain ⟨w, hw⟩ : ∃ w, M[lessN M v] = w := ⟨_, rfl⟩
    have hne : (w == v) = false := by
      have : w ≠ v := fun e => hv (by rw [← e, ← hw]; exact List.getElem_mem hp)
      simpa using this
    simp [-beq_eq_false_iff_ne, v0, v1, v6, v7, hp, D.cells, hw, hne, c81]
  · simp [v0, v1, v6, v7, hp, D.cells]
theorem place_none (M : List Int) (hM : Rise M) (hl : M.length ≤ 4000) (v : Int) (hv : v ∉ M) {n : Nat} (hn : M.length + 11 ≤ n) : pureCall (rc pg n) 60 [intsD M, D.int v] = some (.ret (D.int (-1))) := by
  obtain ⟨m, rfl, e⟩ := body (pg := pg) (f := 60) (args := [intsD M, D.int v]) (show 0 < n by omega) rfl rfl
  rw [e]
  have h1 := fun h => call_of (h := h) (pg := pg) (f := 98) (args := [intsD M, D.int v]) rfl (by simp [intsD, ints_canonL]) (@search_none M hM hl v hv m (by omega))
  simp only [intsD] at h1
  simp [k60, Env.v_ini, intsD, h1]
end Go.Proofs.YtlkpikdfbodhoaaDoor
/- The closure of claims between two marks, by the program. -/
namespace Go.Proofs.YtlkpikdfbodhoaaDoor
open Go Go.Em Go.Em.Net
set_option maxRecDepth 100000
def posF (M : List Int) (v : Int) : Int := if v ∈ M then placeF M v else -1
theorem place_all6 (M : List Int) (hM : Rise M) (hl : M.length ≤ 66) (v : Int) {n : Nat} (hn : 80 ≤ n) : pureCall (rc pg n) 60 [intsD M, D.int v] = some (.ret (D.int (posF M v))) := by
  unfold posF
  by_cases hv : v ∈ M
  · obtain ⟨h1, h2⟩ := place_at hv
    have := @place_run M hM (by omega) _ h1 n (by omega)
    rw [h2] at this
    rw [if_pos hv]; exact this
  · rw [if_neg hv]; exact place_none M hM (by omega) v hv (by omega)
end Go.Proofs.YtlkpikdfbodhoaaDoor
/- Bounds, by the program. -/
namespace Go.Proofs.YtlkpikdfbodhoaaDoor
open Go Go.Em Go.Em.Net
set_option maxRecDepth 100000
end Go.Proofs.YtlkpikdfbodhoaaDoor
/- The closure of claims: it does not depend on their order, and no bound grows with more of them. -/
namespace Go.Proofs.YtlkpikdfbodhoaaDoor
open Go Go.Em Go.Em.Net
theorem enc_some {N : Mx} {a b : Nat} {z : Int} (h : N a b = some z) : encM N a b = z := by simp [encM, enc, h]
end Go.Proofs.YtlkpikdfbodhoaaDoor
/- Years that are given to marks one after the other, each within the room that the bounds leave it: mathematics. -/
namespace Go.Proofs.YtlkpikdfbodhoaaDoor
open Go Go.Em Go.Em.Net
def roomI (A : Nat → Nat → Int) (dt : Nat → Bool) (y : Nat → Int) (i : Nat) : Nat → Int × Int × Bool
  | 0 => (-1000000000, 1000000000, true)
  | J + 1 => if dt J = true ∧ A i J ≠ 1000000000 then (max (roomI A dt y i J).1 (y J - A i J), min (roomI A dt y i J).2.1 (y J + A J i), false) else roomI A dt y i J
def pickI (p : List Int) (t : Nat) (c : Int) : Int := if p = [] ∨ c < 1 then 0 else p.getD (t % p.length) 0 % c
structure Fs where
  dt : Nat → Bool
  y : Nat → Int
  t : Nat
def Fs.put (s : Fs) (i : Nat) (v : Int) (t : Nat) : Fs := ⟨fun q => if q = i then true else s.dt q, fun q => if q = i then v else s.y q, t⟩
def fillS (A : Nat → Nat → Int) (n : Nat) (p : List Int) (s : Fs) (i : Nat) : Fs :=
  if s.dt i = true then s
  else if (roomI A s.dt s.y i n).2.2 = true then s.put i 0 s.t
  else s.put i ((roomI A s.dt s.y i n).1 + pickI p s.t ((roomI A s.dt s.y i n).2.1 - (roomI A s.dt s.y i n).1 + 1)) (s.t + 1)
def fillN (A : Nat → Nat → Int) (n : Nat) (p : List Int) (s : Fs) : Nat → Fs
  | 0 => s
  | i + 1 => fillS A n p (fillN A n p s i) i
end Go.Proofs.YtlkpikdfbodhoaaDoor
/- Whether a net is closed, by the program: the closure of claims is. -/
namespace Go.Proofs.YtlkpikdfbodhoaaDoor
open Go Go.Em Go.Em.Net
set_option maxRecDepth 100000
def nD (M : List Int) (A : Nat → Nat → Int) : D := .agg [intsD M, rowsD M.length A]
theorem rows_canonL (n : Nat) (A : Nat → Nat → Int) : D.canonL ((List.range n).map fun i => D.sl false (yCs n (A i))) = true := canonL_map _ (fun i => by simp [yCs_canon]) _
theorem yCs_at {n : Nat} {y : Nat → Int} {j : Nat} (hj : j < n) (h : j < (yCs n y).length) : (yCs n y)[j]'h = D.int (y j) := Option.some.inj (by rw [← List.getElem?_eq_getElem h]; exact yCs_get hj)
theorem far_run (M : List Int) (A : Nat → Nat → Int) {i j : Nat} (hi : i < M.length) (hj : j < M.length) {n : Nat} (hn : 1 ≤ n) : pureCall (rc pg n) 49 [nD M A, D.int i, D.int j] = some (.ret (D.bool (A i j == 1000000000))) := by
  obtain ⟨m, rfl, e⟩ := body (pg := pg) (f := 49) (args := [nD M A, D.int i, D.int j]) (show 0 < n by omega) rfl rfl
  rw [e]
  have y1 := yCs_len M.length (A i)
  have g1 := fun h' => yCs_at (y := A i) hj h'
  simp [-beq_iff_eq, k49, Env.v_ini, nD, intsD, rowsD, D.cells, D.one, hi, hj, y1, g1]
def OvI (M : List Int) (A : Nat → Nat → Int) (i j : Nat) (k : Nat) (s : St) : Prop := ∃ (x : Env 52) (h : Heap) (q : Nat), s = ⟨x.l, h, []⟩ ∧ q + k = M.length ∧ x.v 1 = D.int i ∧ x.v 2 = D.int j ∧ x.v 3 = .ptr 3 0 ∧ x.v 11 = D.int M.length ∧ x.v 12 = D.int q ∧ h.get 3 = some (.cells 74 [intsD M, rowsD M.length A])
structure NOk (M : List Int) (A : Nat → Nat → Int) : Prop where
  len : M.length ≤ 64
  rise : Rise M
  in_ : ∀ v ∈ M, 0 ≤ v ∧ v ≤ 2048
  diag : ∀ i, i < M.length → A i i = 0
  wide : ∀ i j, i < M.length → j < M.length → A i j = 1000000000 ∨ (-40000000 ≤ A i j ∧ A i j ≤ 40000000)
  via : ∀ i j k, i < M.length → j < M.length → k < M.length → A i j ≠ 1000000000 → A j k ≠ 1000000000 → A i k ≤ A i j + A j k
set_option maxHeartbeats 8000000 in
theorem over_round {M : List Int} {A : Nat → Nat → Int} (o : NOk M A) {i j : Nat} (hi : i < M.length) (hj : j < M.length) (hA : A i j ≠ 1000000000) : ∀ n, 1 ≤ n → ∀ k s, OvI M A i j k s → Res (k100l0.ev ⟨pg, 52, none⟩ (rc pg n) s) (Rnd (OvI M A i j) (fun x s => x = .exit 0 ∧ OvI M A i j 0 s) k) := by
  rintro n hn k s ⟨x, h, q, rfl, hqk, v1, v2, v3, v11, v12, hg⟩
  have hl := o.len
  by_cases hq : q < M.length
  · have w1 : IntKind.i64.wrap ((q : Int) + 1) = (q : Int) + 1 := wrap_i64 (by omega) (by omega)
    have s75 : pg.sh 49 = false := rfl
    have hc1 := ints_canonL M
    have hc2 := rows_canonL M.length A
    have f1 := far_run M A hj hq hn
    have y1 := fun a => yCs_len M.length (A a)
    have g1 := fun h' => yCs_at (y := A i) hj h'
    have g2 := fun h' => yCs_at (y := A i) hq h'
    have g3 := fun h' => yCs_at (y := A j) hq h'
    have i1 : i + 1 ≤ M.length := hi
    have i2 : j + 1 ≤ M.length := hj
    have i3 : q + 1 ≤ M.length := hq
    simp only [nD, intsD, rowsD] at f1 hg
    by_cases hf : A j q = 1000000000
    · have hf' : (A j q == 1000000000) = true := by simp [hf]
      simp [-beq_iff_eq, k100l0, v1, v2, v3, v11, v12, hq, D.cells, D.one, hg, dcore_f, s75, hc1, hc2, f1, hf', w1]
      exact ⟨k - 1, by omega, _, _, q + 1, rfl, by omega, by simp [v1], by simp [v2], by simp [v3], by simp [v11], by simp, by simp [hg, intsD, rowsD]⟩
    · have hf' : (A j q == 1000000000) = false := by simp [hf]
      have hv := o.via i j q hi hj hq hA hf
      have b1 := o.wide i j hi hj
      have b2 := o.wide j q hj hq
      have w2 : IntKind.i64.wrap (A i j + A j q) = A i j + A j q := wrap_i64 (by omega) (by omega)
      have hgt : ¬ (A i j + A j q < A i q) := by omega
      simp [-beq_iff_eq, -beq_eq_false_iff_ne, k100l0, v1, v2, v3, v11, v12, hi, hj, hq, D.cells, D.one, hg, dcore_f, s75, hc1, hc2, f1, hf', w1, y1, g1, g2, g3, i1, i2, i3, w2, hgt]
      exact ⟨k - 1, by omega, _, _, q + 1, rfl, by omega, by simp [v1], by simp [v2], by simp [v3], by simp [v11], by simp, by simp [hg, intsD, rowsD]⟩
  · simp [k100l0, v11, v12, hq]
    exact ⟨_, _, q, rfl, by omega, by simp [v1], by simp [v2], by simp [v3], by simp [v11], by simp [v12], by simp [hg]⟩
theorem over_run {M : List Int} {A : Nat → Nat → Int} (o : NOk M A) {i j : Nat} (hi : i < M.length) (hj : j < M.length) (hA : A i j ≠ 1000000000) {n : Nat} (hn : 100 ≤ n) : pureCall (rc pg n) 100 [nD M A, D.int i, D.int j] = some (.ret (D.bool true)) := by
  obtain ⟨m, rfl, e⟩ := body (pg := pg) (f := 100) (args := [nD M A, D.int i, D.int j]) (show 0 < n by omega) rfl rfl
  rw [e]
  have hl := o.len
  simp [k100, Env.v_ini, nD, intsD, rowsD, D.cells, D.one, ev_loop]
  refine Res.endsAfter (lp_rule 1 (OvI M A i j) _ (over_round o hi hj hA) M.length m _ (by omega) ⟨_, _, 0, rfl, by omega, by simp [Env.v_ini], by simp [Env.v_ini], by simp, by simp, by simp, by simp [intsD, rowsD]⟩) ?_
  rintro x s ⟨rfl, x, h, q, rfl, _⟩
  simp
end Go.Proofs.YtlkpikdfbodhoaaDoor
/- Whether a net is closed, by the program: the loops, and the answer. -/
namespace Go.Proofs.YtlkpikdfbodhoaaDoor
open Go Go.Em Go.Em.Net
set_option maxRecDepth 100000
def R0 (M : List Int) (A : Nat → Nat → Int) (i : Nat) (k : Nat) (s : St) : Prop := ∃ (x : Env 39) (h : Heap) (q : Nat), s = ⟨x.l, h, []⟩ ∧ q + k = M.length ∧ x.v 1 = .ptr 1 0 ∧ x.v 3 = D.int i ∧ x.v 8 = D.int M.length ∧ x.v 9 = D.int i ∧ x.v 15 = D.int M.length ∧ x.v 16 = D.int q ∧ h.get 1 = some (.cells 74 [intsD M, rowsD M.length A])
set_option maxHeartbeats 8000000 in
theorem in_round0 {M : List Int} {A : Nat → Nat → Int} (o : NOk M A) {i : Nat} (hi : i < M.length) : ∀ n, 1 ≤ n → ∀ k s, R0 M A i k s → Res (k63l0.ev ⟨pg, 39, none⟩ (rc pg n) s) (Rnd (R0 M A i) (fun x s => x = .exit 2 ∧ R0 M A i 0 s) k) := by
  rintro n hn k s ⟨x, h, q, rfl, hqk, v1, v3, v8, v9, v15, v16, hg⟩
  have hl := o.len
  by_cases hq : q < M.length
  · have w1 : IntKind.i64.wrap ((q : Int) + 1) = (q : Int) + 1 := wrap_i64 (by omega) (by omega)
    have hc1 := ints_canonL M
    have hc2 := rows_canonL M.length A
    have f1 := fun h => call_of (h := h) (pg := pg) (f := 49) rfl (by simp [nD, intsD, rowsD, hc1, hc2]) (far_run M A hi hq hn)
    have y1 := fun a => yCs_len M.length (A a)
    have g2 := fun h' => yCs_at (y := A i) hq h'
    have i1 : i + 1 ≤ M.length := hi
    have i3 : q + 1 ≤ M.length := hq
    have hw := fun a lo hi h => within_run hn a lo hi h
    simp only [nD, intsD, rowsD] at f1 hg
    by_cases hf : A i q = 1000000000
    · have hf' : (A i q == 1000000000) = true := by simp [hf]
      simp [-beq_iff_eq, k63l0, v1, v3, v8, v9, v15, v16, hq, D.cells, D.one, hg, f1, hf', w1]
      exact ⟨k - 1, by omega, _, _, q + 1, rfl, by omega, by simp [v1], by simp [v3], by simp [v8], by simp [v9], by simp [v15], by simp, by simp [hg, intsD, rowsD]⟩
    · have hf' : (A i q == 1000000000) = false := by simp [hf]
      have b2 := o.wide i q hi hq
      have hr : inR (A i q) (-40000000) 40000000 = true := by
        unfold inR; simp; omega
      simp [-beq_iff_eq, -beq_eq_false_iff_ne, k63l0, v1, v3, v8, v9, v15, v16, hi, hq, D.cells, D.one, hg, f1, hf', w1, y1, g2, i1, i3, hw, hr]
      exact ⟨k - 1, by omega, _, _, q + 1, rfl, by omega, by simp [v1], by simp [v3], by simp [v8], by simp [v9], by simp [v15], by simp, by simp [hg, intsD, rowsD]⟩
  · simp [k63l0, v15, v16, hq]
    exact ⟨_, _, q, rfl, by omega, by simp [v1], by simp [v3], by simp [v8], by simp [v9], by simp [v15], by simp [v16], by simp [hg]⟩
def R1 (M : List Int) (A : Nat → Nat → Int) (k : Nat) (s : St) : Prop := ∃ (x : Env 39) (h : Heap) (q : Nat), s = ⟨x.l, h, []⟩ ∧ q + k = M.length ∧ x.v 1 = .ptr 1 0 ∧ x.v 8 = D.int M.length ∧ x.v 9 = D.int q ∧ h.get 1 = some (.cells 74 [intsD M, rowsD M.length A])
set_option maxHeartbeats 8000000 in
theorem in_round1 {M : List Int} {A : Nat → Nat → Int} (o : NOk M A) : ∀ n, 100 ≤ n → ∀ k s, R1 M A k s → Res (k63l1.ev ⟨pg, 39, none⟩ (rc pg n) s) (Rnd (R1 M A) (fun x s => x = .exit 0 ∧ R1 M A 0 s) k) := by
  rintro n hn k s ⟨x, h, q, rfl, hqk, v1, v8, v9, hg⟩
  have hl := o.len
  by_cases hq : q < M.length
  · have w1 : IntKind.i64.wrap ((q : Int) + 1) = (q : Int) + 1 := wrap_i64 (by omega) (by omega)
    simp only [intsD, rowsD] at hg
    simp [k63l1, v1, v8, v9, hq, D.cells, hg, ev_loop]
    refine Res.after (Res.block (lp_rule 1 (R0 M A q) _ (in_round0 o hq) M.length n _ (by omega) ⟨_, _, 0, rfl, by omega, by simp [v1], by simp, by simp [v8], by simp [v9], by simp, by simp, by simp [hg, intsD, rowsD]⟩) (Q := fun x s => x = .normal ∧ R0 M A q 0 s) ?_) ?_
    · rintro x s ⟨rfl, hr⟩
      simpa using hr
    · rintro x s ⟨rfl, x, h, q', rfl, hq', u1, u3, u8, u9, u15, u16, hg'⟩
      simp [u9, w1]
      exact ⟨k - 1, by omega, _, _, q + 1, rfl, by omega, by simp [u1], by simp [u8], by simp, by simp [hg']⟩
  · simp [k63l1, v8, v9, hq]
    exact ⟨_, _, q, rfl, by omega, by simp [v1], by simp [v8], by simp [v9], by simp [hg]⟩
end Go.Proofs.YtlkpikdfbodhoaaDoor
/- Whether a net is closed, by the program: the other loops, and the answer. -/
namespace Go.Proofs.YtlkpikdfbodhoaaDoor
open Go Go.Em Go.Em.Net
set_option maxRecDepth 100000
def S0 (M : List Int) (A : Nat → Nat → Int) (i : Nat) (k : Nat) (s : St) : Prop := ∃ (x : Env 43) (h : Heap) (q : Nat), s = ⟨x.l, h, []⟩ ∧ q + k = M.length ∧ x.v 1 = .ptr 1 0 ∧ x.v 3 = D.int i ∧ x.v 8 = D.int M.length ∧ x.v 9 = D.int i ∧ x.v 25 = D.int M.length ∧ x.v 26 = D.int q ∧ h.get 1 = some (.cells 74 [intsD M, rowsD M.length A])
set_option maxHeartbeats 8000000 in
theorem cl_round0 {M : List Int} {A : Nat → Nat → Int} (o : NOk M A) {i : Nat} (hi : i < M.length) : ∀ n, 100 ≤ n → ∀ k s, S0 M A i k s → Res (k69l0.ev ⟨pg, 43, none⟩ (rc pg n) s) (Rnd (S0 M A i) (fun x s => x = .exit 2 ∧ S0 M A i 0 s) k) := by
  rintro n hn k s ⟨x, h, q, rfl, hqk, v1, v3, v8, v9, v15, v16, hg⟩
  have hl := o.len
  by_cases hq : q < M.length
  · have w1 : IntKind.i64.wrap ((q : Int) + 1) = (q : Int) + 1 := wrap_i64 (by omega) (by omega)
    have hc1 := ints_canonL M
    have hc2 := rows_canonL M.length A
    have f1 := fun h => call_of (h := h) (pg := pg) (f := 49) rfl (by simp [nD, intsD, rowsD, hc1, hc2]) (far_run M A hi hq (show 1 ≤ n by omega))
    simp only [nD, intsD, rowsD] at f1 hg
    by_cases hf : A i q = 1000000000
    · have hf' : (A i q == 1000000000) = true := by simp [hf]
      simp [-beq_iff_eq, k69l0, v1, v3, v8, v9, v15, v16, hq, D.cells, D.one, hg, f1, hf', w1]
      exact ⟨k - 1, by omega, _, _, q + 1, rfl, by omega, by simp [v1], by simp [v3], by simp [v8], by simp [v9], by simp [v15], by simp, by simp [hg, intsD, rowsD]⟩
    · have hf' : (A i q == 1000000000) = false := by simp [hf]
      have f2 := fun h => call_of (h := h) (pg := pg) (f := 100) rfl (by simp [nD, intsD, rowsD, hc1, hc2]) (over_run o hi hq hf (show 100 ≤ n by omega))
      simp only [nD, intsD, rowsD] at f2
      simp [-beq_iff_eq, -beq_eq_false_iff_ne, k69l0, v1, v3, v8, v9, v15, v16, hq, D.cells, D.one, hg, f1, f2, hf', w1]
      exact ⟨k - 1, by omega, _, _, q + 1, rfl, by omega, by simp [v1], by simp [v3], by simp [v8], by simp [v9], by simp [v15], by simp, by simp [hg, intsD, rowsD]⟩
  · simp [k69l0, v15, v16, hq]
    exact ⟨_, _, q, rfl, by omega, by simp [v1], by simp [v3], by simp [v8], by simp [v9], by simp [v15], by simp [v16], by simp [hg]⟩
def S1 (M : List Int) (A : Nat → Nat → Int) (k : Nat) (s : St) : Prop := ∃ (x : Env 43) (h : Heap) (q : Nat), s = ⟨x.l, h, []⟩ ∧ q + k = M.length ∧ x.v 1 = .ptr 1 0 ∧ x.v 8 = D.int M.length ∧ x.v 9 = D.int q ∧ h.get 1 = some (.cells 74 [intsD M, rowsD M.length A])
set_option maxHeartbeats 8000000 in
theorem cl_round1 {M : List Int} {A : Nat → Nat → Int} (o : NOk M A) : ∀ n, 200 ≤ n → ∀ k s, S1 M A k s → Res (k69l1.ev ⟨pg, 43, none⟩ (rc pg n) s) (Rnd (S1 M A) (fun x s => x = .exit 0 ∧ S1 M A 0 s) k) := by
  rintro n hn k s ⟨x, h, q, rfl, hqk, v1, v8, v9, hg⟩
  have hl := o.len
  by_cases hq : q < M.length
  · have w1 : IntKind.i64.wrap ((q : Int) + 1) = (q : Int) + 1 := wrap_i64 (by omega) (by omega)
    have y1 := yCs_len M.length (A q)
    have g2 := fun h' => yCs_at (y := A q) hq h'
    have d1 := o.diag q hq
    have i3 : q + 1 ≤ M.length := hq
    simp only [intsD, rowsD] at hg
    simp [k69l1, v1, v8, v9, hq, D.cells, D.one, hg, y1, g2, d1, i3, ev_loop]
    refine Res.after (Res.block (lp_rule 100 (S0 M A q) _ (cl_round0 o hq) M.length n _ (by omega) ⟨_, _, 0, rfl, by omega, by simp [v1], by simp, by simp [v8], by simp [v9], by simp, by simp, by simp [hg, intsD, rowsD]⟩) (Q := fun x s => x = .normal ∧ S0 M A q 0 s) ?_) ?_
    · rintro x s ⟨rfl, hr⟩
      simpa using hr
    · rintro x s ⟨rfl, x, h, q', rfl, hq', u1, u3, u8, u9, u15, u16, hg'⟩
      simp [u9, w1]
      exact ⟨k - 1, by omega, _, _, q + 1, rfl, by omega, by simp [u1], by simp [u8], by simp, by simp [hg']⟩
  · simp [k69l1, v8, v9, hq]
    exact ⟨_, _, q, rfl, by omega, by simp [v1], by simp [v8], by simp [v9], by simp [hg]⟩
theorem clsd_run {M : List Int} {A : Nat → Nat → Int} (o : NOk M A) {n : Nat} (hn : 400 ≤ n) : pureCall (rc pg n) 69 [nD M A] = some (.ret (D.bool true)) := by
  obtain ⟨m, rfl, e⟩ := body (pg := pg) (f := 69) (args := [nD M A]) (show 0 < n by omega) rfl rfl
  rw [e]
  have hl := o.len
  simp [k69, Env.v_ini, nD, intsD, rowsD, D.cells, D.one, ev_loop]
  refine Res.endsAfter (lp_rule 200 (S1 M A) _ (cl_round1 o) M.length m _ (by omega) ⟨_, _, 0, rfl, by omega, by simp, by simp, by simp, by simp [intsD, rowsD]⟩) ?_
  rintro x s ⟨rfl, x, h, q, rfl, _⟩
  simp
theorem range_run {M : List Int} {A : Nat → Nat → Int} (o : NOk M A) {n : Nat} (hn : 400 ≤ n) : pureCall (rc pg n) 63 [nD M A] = some (.ret (D.bool true)) := by
  obtain ⟨m, rfl, e⟩ := body (pg := pg) (f := 63) (args := [nD M A]) (show 0 < n by omega) rfl rfl
  rw [e]
  have hl := o.len
  simp [k63, Env.v_ini, nD, intsD, rowsD, D.cells, D.one, ev_loop]
  refine Res.endsAfter (lp_rule 100 (R1 M A) _ (in_round1 o) M.length m _ (by omega) ⟨_, _, 0, rfl, by omega, by simp, by simp, by simp, by simp [intsD, rowsD]⟩) ?_
  rintro x s ⟨rfl, x, h, q, rfl, _⟩
  simp
def H0 (M : List Int) (A : Nat → Nat → Int) (k : Nat) (s : St) : Prop := ∃ (x : Env 59) (h : Heap) (q : Nat) (la : Int), s = ⟨x.l, h, []⟩ ∧ q + k = M.length ∧ x.v 1 = .ptr 1 0 ∧ x.v 3 = D.int la ∧ x.v 24 = D.int M.length ∧ x.v 25 = D.int q ∧ h.get 1 = some (.cells 74 [intsD M, rowsD M.length A]) ∧ -1 ≤ la ∧ la ≤ 2048 ∧ ∀ hq : q < M.length, la < M[q]
set_option maxHeartbeats 8000000 in
theorem form_round {M : List Int} {A : Nat → Nat → Int} (o : NOk M A) : ∀ n, 1 ≤ n → ∀ k s, H0 M A k s → Res (k68l0.ev ⟨pg, 59, none⟩ (rc pg n) s) (Rnd (H0 M A) (fun x s => x = .exit 0 ∧ H0 M A 0 s) k) := by
  rintro n hn k s ⟨x, h, q, la, rfl, hqk, v1, v3, v24, v25, hg, a1, a2, a3⟩
  have hl := o.len
  by_cases hq : q < M.length
  · have w1 : IntKind.i64.wrap ((q : Int) + 1) = (q : Int) + 1 := wrap_i64 (by omega) (by omega)
    have w2 : IntKind.i64.wrap (la + 1) = la + 1 := wrap_i64 (by omega) (by omega)
    have y1 := yCs_len M.length (A q)
    have hm := a3 hq
    obtain ⟨v, hv⟩ : ∃ v, M[q] = v := ⟨_, rfl⟩
    have hin := o.in_ v (by rw [← hv]; exact List.getElem_mem hq)
    rw [hv] at hm
    have hr : inR v (la + 1) 2048 = true := by unfold inR; simp; omega
    have s53 : pg.sh 42 = false := rfl
    have hw : pureCall (rc pg n) 42 [D.int v, D.int (la + 1), D.int 2048] = some (.ret (D.bool true)) := by
      obtain ⟨m, rfl, e⟩ := body (pg := pg) (f := 42) (args := [D.int v, D.int (la + 1), D.int 2048]) (show 0 < n by omega) rfl rfl
      rw [e]
      have e1 : la + 1 ≤ v := by omega
      have e2 : v ≤ 2048 := by omega
      simp [k42, Env.v_ini, e1, e2]
    simp only [intsD, rowsD] at hg
    simp [k68l0, v1, v3, v24, v25, hq, D.cells, D.one, hg, hv, w2, dcore_f, s53, hw, y1, w1]
    refine ⟨k - 1, by omega, _, _, q + 1, v, rfl, by omega, by simp [v1], by simp, by simp [v24], by simp, by simp [hg, intsD, rowsD], by omega, by omega, fun hq' => ?_⟩
    rw [← hv]
    exact List.pairwise_iff_getElem.1 o.rise q (q + 1) hq hq' (by omega)
  · simp [k68l0, v24, v25, hq]
    exact ⟨_, _, q, la, rfl, by omega, by simp [v1], by simp [v3], by simp [v24], by simp [v25], by simp [hg], a1, a2, a3⟩
theorem form_run {M : List Int} {A : Nat → Nat → Int} (o : NOk M A) {n : Nat} (hn : 400 ≤ n) : pureCall (rc pg n) 68 [nD M A] = some (.ret (D.bool true)) := by
  obtain ⟨m, rfl, e⟩ := body (pg := pg) (f := 68) (args := [nD M A]) (show 0 < n by omega) rfl rfl
  rw [e]
  have hl := o.len
  have hl' : ¬ (64 : Int) < M.length := by omega
  simp [k68, Env.v_ini, nD, intsD, rowsD, D.cells, D.one, hl', ev_loop]
  refine Res.endsAfter (lp_rule 1 (H0 M A) _ (form_round o) M.length m _ (by omega) ⟨_, _, 0, -1, rfl, by omega, by simp, by simp, by simp, by simp, by simp [intsD, rowsD], by omega, by omega, fun hq => ?_⟩) ?_
  · have := o.in_ _ (List.getElem_mem hq)
    omega
  rintro x s ⟨rfl, x, h, q, la, rfl, _⟩
  simp
theorem check_net {M : List Int} {A : Nat → Nat → Int} (o : NOk M A) {n : Nat} (hn : 500 ≤ n) : pureCall (rc pg n) 21 [nD M A] = some (.ret (D.int 0)) := by
  obtain ⟨m, rfl, e⟩ := body (pg := pg) (f := 21) (args := [nD M A]) (show 0 < n by omega) rfl rfl
  rw [e]
  have hc1 := ints_canonL M
  have hc2 := rows_canonL M.length A
  have f1 := fun h => call_of (h := h) (pg := pg) (f := 68) rfl (by simp [nD, intsD, rowsD, hc1, hc2]) (form_run o (show 400 ≤ m by omega))
  have f2 := fun h => call_of (h := h) (pg := pg) (f := 63) rfl (by simp [nD, intsD, rowsD, hc1, hc2]) (range_run o (show 400 ≤ m by omega))
  have f3 := fun h => call_of (h := h) (pg := pg) (f := 69) rfl (by simp [nD, intsD, rowsD, hc1, hc2]) (clsd_run o (show 400 ≤ m by omega))
  simp only [nD, intsD, rowsD] at f1 f2 f3
  simp [k21, Env.v_ini, nD, intsD, rowsD, D.cells, D.one, f1, f2, f3]
end Go.Proofs.YtlkpikdfbodhoaaDoor
/- The closure of claims, by the program's exported function; nets that are equal; claims with one more. -/
namespace Go.Proofs.YtlkpikdfbodhoaaDoor
open Go Go.Em Go.Em.Net
set_option maxRecDepth 100000
def nilN : D := .agg [.sl false [], .sl false []]
theorem sameF_self (a : List Int) : sameF a a = true := by unfold sameF; simp
def SN (M : List Int) (A : Nat → Nat → Int) (k : Nat) (s : St) : Prop := ∃ (x : Env 40) (h : Heap) (q : Nat), s = ⟨x.l, h, []⟩ ∧ q + k = M.length ∧ x.v 2 = .ptr 2 0 ∧ x.v 3 = .ptr 3 0 ∧ x.v 23 = D.int M.length ∧ x.v 24 = D.int q ∧ h.get 2 = some (.cells 40 [intsD M, rowsD M.length A]) ∧ h.get 3 = some (.cells 40 [intsD M, rowsD M.length A])
theorem yCs_ints (n : Nat) (y : Nat → Int) : yCs n y = ((List.range n).map y).map D.int := by unfold yCs; rw [List.map_map]; rfl
set_option maxHeartbeats 8000000 in
theorem sn_round (M : List Int) (A : Nat → Nat → Int) (hl : M.length ≤ 64) : ∀ n, 80 ≤ n → ∀ k s, SN M A k s → Res (k23l0.ev ⟨pg, 40, none⟩ (rc pg n) s) (Rnd (SN M A) (fun x s => x = .exit 0 ∧ SN M A 0 s) k) := by
  rintro n hn k s ⟨x, h, q, rfl, hqk, v2, v3, v23, v24, hg, hg'⟩
  by_cases hq : q < M.length
  · have w1 : IntKind.i64.wrap ((q : Int) + 1) = (q : Int) + 1 := wrap_i64 (by omega) (by omega)
    have s51 : pg.sh 30 = false := rfl
    have f1 := @sameI_run ((List.range M.length).map (A q)) ((List.range M.length).map (A q)) (by simp; omega) n (by simp; omega)
    rw [sameF_self] at f1
    simp only [intsD, ← yCs_ints] at f1
    have hc := yCs_canon M.length (A q)
    simp only [intsD, rowsD] at hg hg'
    simp [k23l0, v2, v3, v23, v24, hq, D.cells, D.one, hg, hg', dcore_f, s51, f1, hc, w1]
    exact ⟨k - 1, by omega, _, _, q + 1, rfl, by omega, by simp [v2], by simp [v3], by simp [v23], by simp, by simp [hg, intsD, rowsD], by simp [hg', intsD, rowsD]⟩
  · simp [k23l0, v23, v24, hq]
    exact ⟨_, _, q, rfl, by omega, by simp [v2], by simp [v3], by simp [v23], by simp [v24], by simp [hg], by simp [hg']⟩
theorem same_net (M : List Int) (A : Nat → Nat → Int) (hl : M.length ≤ 64) {n : Nat} (hn : 300 ≤ n) : pureCall (rc pg n) 23 [nD M A, nD M A] = some (.ret (D.bool true)) := by
  obtain ⟨m, rfl, e⟩ := body (pg := pg) (f := 23) (args := [nD M A, nD M A]) (show 0 < n by omega) rfl rfl
  rw [e]
  have f1 := fun h => call_of (h := h) (pg := pg) (f := 30) rfl (by simp [intsD, ints_canonL]) (@sameI_run M M (by omega) m (by omega))
  rw [sameF_self] at f1
  simp only [intsD] at f1
  simp [k23, Env.v_ini, nD, intsD, rowsD, D.cells, D.one, f1, ev_loop]
  refine Res.endsAfter (lp_rule 80 (SN M A) _ (sn_round M A hl) M.length m _ (by omega) ⟨_, _, 0, rfl, by omega, by simp, by simp, by simp, by simp, by simp [intsD, rowsD], by simp [intsD, rowsD]⟩) ?_
  rintro x s ⟨rfl, x, h, q, rfl, _⟩
  simp
end Go.Proofs.YtlkpikdfbodhoaaDoor
/- The closure does not depend on the order of the claims: rotations; one more claim; places; remainders. -/
namespace Go.Proofs.YtlkpikdfbodhoaaDoor
open Go Go.Em Go.Em.Net
set_option maxRecDepth 100000
theorem ix_place {v : Int} : ∀ {M : List Int} {i : Nat}, v ∈ M → ixP (· == v) i M = ((i + placeF M v : Nat) : Int)
  | [], _, h => absurd h List.not_mem_nil
  | a :: M, i, h => by
    unfold ixP placeF
    rw [List.idxOf_cons]
    by_cases e : a = v
    · subst e; simp
    · have e' : (a == v) = false := by simpa using e
      have hv : v ∈ M := by
        rcases List.mem_cons.1 h with h | h
        · exact absurd h.symm e
        · exact h
      have := ix_place (i := i + 1) hv
      unfold placeF at this
      simp only [e', Bool.false_eq_true, if_false, cond_false]
      rw [this]
      congr 1
      omega
end Go.Proofs.YtlkpikdfbodhoaaDoor
