/- The closure of claims: it does not depend on their order, and no bound grows with more of them. -/
import Derived.Test.YtjgafgkkpofgbaaDoorMul
import Derived.Test.YtjgafgkkpofgbaaDoorEmNet
import Derived.Test.YtjgafgkkpofgbaaDoorPl
namespace Go.Proofs.YtjgafgkkpofgbaaDoor
open Go Go.Em Go.Em.Net
/-- The closure of claims is closed. -/
theorem clo_clsd {l : List Clm} (h0 : chkF l = 0) (hb : badF l = false) : Clsd (marksF l).length (cloF l) := by
  have hd := (bad_iff h0).1 hb
  refine ⟨fun i hi => hd _ (Nat.le_refl _) i hi, fun hl ha hb' => fw_closed _ (fun q hq => hd q (by omega) q hq) hl ha hb', fun h => fw_sym (good_movs h0).symE _ h⟩
theorem enc_some {N : Mx} {a b : Nat} {z : Int} (h : N a b = some z) : encM N a b = z := by simp [encM, enc, h]
theorem clo_small {l : List Clm} (h0 : chkF l = 0) (hb : badF l = false) : Bt (cloF l) := (good_movs h0).calm (chk_ok h0).2.2 ((bad_iff h0).1 hb) _ (Nat.le_refl _)
end Go.Proofs.YtjgafgkkpofgbaaDoor
/- Whether a net is closed, by the program: the closure of claims is. -/
namespace Go.Proofs.YtjgafgkkpofgbaaDoor
open Go Go.Em Go.Em.Net
set_option maxRecDepth 100000
def nD (M : List Int) (A : Nat → Nat → Int) : D := .agg [intsD M, rowsD M.length A]
theorem rows_canonL (n : Nat) (A : Nat → Nat → Int) : D.canonL ((List.range n).map fun i => D.sl false (yCs n (A i))) = true := canonL_map _ (fun i => by simp [yCs_canon]) _
theorem yCs_at {n : Nat} {y : Nat → Int} {j : Nat} (hj : j < n) (h : j < (yCs n y).length) : (yCs n y)[j]'h = D.int (y j) := Option.some.inj (by rw [← List.getElem?_eq_getElem h]; exact yCs_get hj)
theorem far_run (M : List Int) (A : Nat → Nat → Int) {i j : Nat} (hi : i < M.length) (hj : j < M.length) {n : Nat} (hn : 1 ≤ n) : pureCall (rc pg n) 75 [nD M A, D.int i, D.int j] = some (.ret (D.bool (A i j == 1000000000))) := by
  obtain ⟨m, rfl, e⟩ := body (pg := pg) (f := 75) (args := [nD M A, D.int i, D.int j]) (show 0 < n by omega) rfl rfl
  rw [e]
  have y1 := yCs_len M.length (A i)
  have g1 := fun h' => yCs_at (y := A i) hj h'
  simp [-beq_iff_eq, k75, Env.v_ini, nD, intsD, rowsD, D.cells, D.one, hi, hj, y1, g1]
def OvI (M : List Int) (A : Nat → Nat → Int) (i j : Nat) (k : Nat) (s : St) : Prop := ∃ (x : Env 52) (h : Heap) (q : Nat), s = ⟨x.l, h, []⟩ ∧ q + k = M.length ∧ x.v 1 = D.int i ∧ x.v 2 = D.int j ∧ x.v 3 = .ptr 3 0 ∧ x.v 11 = D.int M.length ∧ x.v 12 = D.int q ∧ h.get 3 = some (.cells 90 [intsD M, rowsD M.length A])
/-- A net that the program calls closed. -/
structure NOk (M : List Int) (A : Nat → Nat → Int) : Prop where
  len : M.length ≤ 64
  rise : Rise M
  in_ : ∀ v ∈ M, 0 ≤ v ∧ v ≤ 2048
  diag : ∀ i, i < M.length → A i i = 0
  wide : ∀ i j, i < M.length → j < M.length → A i j = 1000000000 ∨ (-40000000 ≤ A i j ∧ A i j ≤ 40000000)
  via : ∀ i j k, i < M.length → j < M.length → k < M.length → A i j ≠ 1000000000 → A j k ≠ 1000000000 → A i k ≤ A i j + A j k
set_option maxHeartbeats 8000000 in
theorem over_round {M : List Int} {A : Nat → Nat → Int} (o : NOk M A) {i j : Nat} (hi : i < M.length) (hj : j < M.length) (hA : A i j ≠ 1000000000) : ∀ n, 1 ≤ n → ∀ k s, OvI M A i j k s → Res (k102l0.ev ⟨pg, 52, none⟩ (rc pg n) s) (Rnd (OvI M A i j) (fun x s => x = .exit 0 ∧ OvI M A i j 0 s) k) := by
  rintro n hn k s ⟨x, h, q, rfl, hqk, v1, v2, v3, v11, v12, hg⟩
  have hl := o.len
  by_cases hq : q < M.length
  · have w1 : IntKind.i64.wrap ((q : Int) + 1) = (q : Int) + 1 := wrap_i64 (by omega) (by omega)
    have s75 : pg.sh 75 = false := rfl
    have hc1 := ints_canonL M
    have hc2 := rows_canonL M.length A
    have f1 := far_run M A hj hq hn
    have y1 := fun a => yCs_len M.length (A a)
    have g1 := fun h' => yCs_at (y := A i) hj h'
    have g2 := fun h' => yCs_at (y := A i) hq h'
    have g3 := fun h' => yCs_at (y := A j) hq h'
    have i1 : i + 1 ≤ M.length := hi
    have i2 : j + 1 ≤ M.length := hj
    have i3 : q + 1 ≤ M.length := hq
    simp only [nD, intsD, rowsD] at f1 hg
    by_cases hf : A j q = 1000000000
    · have hf' : (A j q == 1000000000) = true := by simp [hf]
      simp [-beq_iff_eq, k102l0, v1, v2, v3, v11, v12, hq, D.cells, D.one, hg, dcore_f, s75, hc1, hc2, f1, hf', w1]
      exact ⟨k - 1, by omega, _, _, q + 1, rfl, by omega, by simp [v1], by simp [v2], by simp [v3], by simp [v11], by simp, by simp [hg, intsD, rowsD]⟩
    · have hf' : (A j q == 1000000000) = false := by simp [hf]
      have hv := o.via i j q hi hj hq hA hf
      have b1 := o.wide i j hi hj
      have b2 := o.wide j q hj hq
      have w2 : IntKind.i64.wrap (A i j + A j q) = A i j + A j q := wrap_i64 (by omega) (by omega)
      have hgt : ¬ (A i j + A j q < A i q) := by omega
      simp [-beq_iff_eq, -beq_eq_false_iff_ne, k102l0, v1, v2, v3, v11, v12, hi, hj, hq, D.cells, D.one, hg, dcore_f, s75, hc1, hc2, f1, hf', w1, y1, g1, g2, g3, i1, i2, i3, w2, hgt]
      exact ⟨k - 1, by omega, _, _, q + 1, rfl, by omega, by simp [v1], by simp [v2], by simp [v3], by simp [v11], by simp, by simp [hg, intsD, rowsD]⟩
  · simp [k102l0, v11, v12, hq]
    exact ⟨_, _, q, rfl, by omega, by simp [v1], by simp [v2], by simp [v3], by simp [v11], by simp [v12], by simp [hg]⟩
theorem over_run {M : List Int} {A : Nat → Nat → Int} (o : NOk M A) {i j : Nat} (hi : i < M.length) (hj : j < M.length) (hA : A i j ≠ 1000000000) {n : Nat} (hn : 100 ≤ n) : pureCall (rc pg n) 102 [nD M A, D.int i, D.int j] = some (.ret (D.bool true)) := by
  obtain ⟨m, rfl, e⟩ := body (pg := pg) (f := 102) (args := [nD M A, D.int i, D.int j]) (show 0 < n by omega) rfl rfl
  rw [e]
  have hl := o.len
  simp [k102, Env.v_ini, nD, intsD, rowsD, D.cells, D.one, ev_loop]
  refine Res.endsAfter (lp_rule 1 (OvI M A i j) _ (over_round o hi hj hA) M.length m _ (by omega) ⟨_, _, 0, rfl, by omega, by simp [Env.v_ini], by simp [Env.v_ini], by simp, by simp, by simp, by simp [intsD, rowsD]⟩) ?_
  rintro x s ⟨rfl, x, h, q, rfl, _⟩
  simp
end Go.Proofs.YtjgafgkkpofgbaaDoor
/- Whether a net is closed, by the program: the loops, and the answer. -/
namespace Go.Proofs.YtjgafgkkpofgbaaDoor
open Go Go.Em Go.Em.Net
set_option maxRecDepth 100000
def R0 (M : List Int) (A : Nat → Nat → Int) (i : Nat) (k : Nat) (s : St) : Prop := ∃ (x : Env 39) (h : Heap) (q : Nat), s = ⟨x.l, h, []⟩ ∧ q + k = M.length ∧ x.v 1 = .ptr 1 0 ∧ x.v 3 = D.int i ∧ x.v 8 = D.int M.length ∧ x.v 9 = D.int i ∧ x.v 15 = D.int M.length ∧ x.v 16 = D.int q ∧ h.get 1 = some (.cells 90 [intsD M, rowsD M.length A])
set_option maxHeartbeats 8000000 in
theorem in_round0 {M : List Int} {A : Nat → Nat → Int} (o : NOk M A) {i : Nat} (hi : i < M.length) : ∀ n, 1 ≤ n → ∀ k s, R0 M A i k s → Res (k69l0.ev ⟨pg, 39, none⟩ (rc pg n) s) (Rnd (R0 M A i) (fun x s => x = .exit 2 ∧ R0 M A i 0 s) k) := by
  rintro n hn k s ⟨x, h, q, rfl, hqk, v1, v3, v8, v9, v15, v16, hg⟩
  have hl := o.len
  by_cases hq : q < M.length
  · have w1 : IntKind.i64.wrap ((q : Int) + 1) = (q : Int) + 1 := wrap_i64 (by omega) (by omega)
    have hc1 := ints_canonL M
    have hc2 := rows_canonL M.length A
    have f1 := fun h => call_of (h := h) (pg := pg) (f := 75) rfl (by simp [nD, intsD, rowsD, hc1, hc2]) (far_run M A hi hq hn)
    have y1 := fun a => yCs_len M.length (A a)
    have g2 := fun h' => yCs_at (y := A i) hq h'
    have i1 : i + 1 ≤ M.length := hi
    have i3 : q + 1 ≤ M.length := hq
    have hw := fun a lo hi h => within_run hn a lo hi h
    simp only [nD, intsD, rowsD] at f1 hg
    by_cases hf : A i q = 1000000000
    · have hf' : (A i q == 1000000000) = true := by simp [hf]
      simp [-beq_iff_eq, k69l0, v1, v3, v8, v9, v15, v16, hq, D.cells, D.one, hg, f1, hf', w1]
      exact ⟨k - 1, by omega, _, _, q + 1, rfl, by omega, by simp [v1], by simp [v3], by simp [v8], by simp [v9], by simp [v15], by simp, by simp [hg, intsD, rowsD]⟩
    · have hf' : (A i q == 1000000000) = false := by simp [hf]
      have b2 := o.wide i q hi hq
      have hr : inR (A i q) (-40000000) 40000000 = true := by
        unfold inR; simp; omega
      simp [-beq_iff_eq, -beq_eq_false_iff_ne, k69l0, v1, v3, v8, v9, v15, v16, hi, hq, D.cells, D.one, hg, f1, hf', w1, y1, g2, i1, i3, hw, hr]
      exact ⟨k - 1, by omega, _, _, q + 1, rfl, by omega, by simp [v1], by simp [v3], by simp [v8], by simp [v9], by simp [v15], by simp, by simp [hg, intsD, rowsD]⟩
  · simp [k69l0, v15, v16, hq]
    exact ⟨_, _, q, rfl, by omega, by simp [v1], by simp [v3], by simp [v8], by simp [v9], by simp [v15], by simp [v16], by simp [hg]⟩
def R1 (M : List Int) (A : Nat → Nat → Int) (k : Nat) (s : St) : Prop := ∃ (x : Env 39) (h : Heap) (q : Nat), s = ⟨x.l, h, []⟩ ∧ q + k = M.length ∧ x.v 1 = .ptr 1 0 ∧ x.v 8 = D.int M.length ∧ x.v 9 = D.int q ∧ h.get 1 = some (.cells 90 [intsD M, rowsD M.length A])
set_option maxHeartbeats 8000000 in
theorem in_round1 {M : List Int} {A : Nat → Nat → Int} (o : NOk M A) : ∀ n, 100 ≤ n → ∀ k s, R1 M A k s → Res (k69l1.ev ⟨pg, 39, none⟩ (rc pg n) s) (Rnd (R1 M A) (fun x s => x = .exit 0 ∧ R1 M A 0 s) k) := by
  rintro n hn k s ⟨x, h, q, rfl, hqk, v1, v8, v9, hg⟩
  have hl := o.len
  by_cases hq : q < M.length
  · have w1 : IntKind.i64.wrap ((q : Int) + 1) = (q : Int) + 1 := wrap_i64 (by omega) (by omega)
    simp only [intsD, rowsD] at hg
    simp [k69l1, v1, v8, v9, hq, D.cells, hg, ev_loop]
    refine Res.after (Res.block (lp_rule 1 (R0 M A q) _ (in_round0 o hq) M.length n _ (by omega) ⟨_, _, 0, rfl, by omega, by simp [v1], by simp, by simp [v8], by simp [v9], by simp, by simp, by simp [hg, intsD, rowsD]⟩) (Q := fun x s => x = .normal ∧ R0 M A q 0 s) ?_) ?_
    · rintro x s ⟨rfl, hr⟩
      simpa using hr
    · rintro x s ⟨rfl, x, h, q', rfl, hq', u1, u3, u8, u9, u15, u16, hg'⟩
      simp [u9, w1]
      exact ⟨k - 1, by omega, _, _, q + 1, rfl, by omega, by simp [u1], by simp [u8], by simp, by simp [hg']⟩
  · simp [k69l1, v8, v9, hq]
    exact ⟨_, _, q, rfl, by omega, by simp [v1], by simp [v8], by simp [v9], by simp [hg]⟩
end Go.Proofs.YtjgafgkkpofgbaaDoor
/- Whether a net is closed, by the program: the other loops, and the answer. -/
namespace Go.Proofs.YtjgafgkkpofgbaaDoor
open Go Go.Em Go.Em.Net
set_option maxRecDepth 100000
def S0 (M : List Int) (A : Nat → Nat → Int) (i : Nat) (k : Nat) (s : St) : Prop := ∃ (x : Env 43) (h : Heap) (q : Nat), s = ⟨x.l, h, []⟩ ∧ q + k = M.length ∧ x.v 1 = .ptr 1 0 ∧ x.v 3 = D.int i ∧ x.v 8 = D.int M.length ∧ x.v 9 = D.int i ∧ x.v 25 = D.int M.length ∧ x.v 26 = D.int q ∧ h.get 1 = some (.cells 90 [intsD M, rowsD M.length A])
set_option maxHeartbeats 8000000 in
theorem cl_round0 {M : List Int} {A : Nat → Nat → Int} (o : NOk M A) {i : Nat} (hi : i < M.length) : ∀ n, 100 ≤ n → ∀ k s, S0 M A i k s → Res (k70l0.ev ⟨pg, 43, none⟩ (rc pg n) s) (Rnd (S0 M A i) (fun x s => x = .exit 2 ∧ S0 M A i 0 s) k) := by
  rintro n hn k s ⟨x, h, q, rfl, hqk, v1, v3, v8, v9, v15, v16, hg⟩
  have hl := o.len
  by_cases hq : q < M.length
  · have w1 : IntKind.i64.wrap ((q : Int) + 1) = (q : Int) + 1 := wrap_i64 (by omega) (by omega)
    have hc1 := ints_canonL M
    have hc2 := rows_canonL M.length A
    have f1 := fun h => call_of (h := h) (pg := pg) (f := 75) rfl (by simp [nD, intsD, rowsD, hc1, hc2]) (far_run M A hi hq (show 1 ≤ n by omega))
    simp only [nD, intsD, rowsD] at f1 hg
    by_cases hf : A i q = 1000000000
    · have hf' : (A i q == 1000000000) = true := by simp [hf]
      simp [-beq_iff_eq, k70l0, v1, v3, v8, v9, v15, v16, hq, D.cells, D.one, hg, f1, hf', w1]
      exact ⟨k - 1, by omega, _, _, q + 1, rfl, by omega, by simp [v1], by simp [v3], by simp [v8], by simp [v9], by simp [v15], by simp, by simp [hg, intsD, rowsD]⟩
    · have hf' : (A i q == 1000000000) = false := by simp [hf]
      have f2 := fun h => call_of (h := h) (pg := pg) (f := 102) rfl (by simp [nD, intsD, rowsD, hc1, hc2]) (over_run o hi hq hf (show 100 ≤ n by omega))
      simp only [nD, intsD, rowsD] at f2
      simp [-beq_iff_eq, -beq_eq_false_iff_ne, k70l0, v1, v3, v8, v9, v15, v16, hq, D.cells, D.one, hg, f1, f2, hf', w1]
      exact ⟨k - 1, by omega, _, _, q + 1, rfl, by omega, by simp [v1], by simp [v3], by simp [v8], by simp [v9], by simp [v15], by simp, by simp [hg, intsD, rowsD]⟩
  · simp [k70l0, v15, v16, hq]
    exact ⟨_, _, q, rfl, by omega, by simp [v1], by simp [v3], by simp [v8], by simp [v9], by simp [v15], by simp [v16], by simp [hg]⟩
def S1 (M : List Int) (A : Nat → Nat → Int) (k : Nat) (s : St) : Prop := ∃ (x : Env 43) (h : Heap) (q : Nat), s = ⟨x.l, h, []⟩ ∧ q + k = M.length ∧ x.v 1 = .ptr 1 0 ∧ x.v 8 = D.int M.length ∧ x.v 9 = D.int q ∧ h.get 1 = some (.cells 90 [intsD M, rowsD M.length A])
set_option maxHeartbeats 8000000 in
theorem cl_round1 {M : List Int} {A : Nat → Nat → Int} (o : NOk M A) : ∀ n, 200 ≤ n → ∀ k s, S1 M A k s → Res (k70l1.ev ⟨pg, 43, none⟩ (rc pg n) s) (Rnd (S1 M A) (fun x s => x = .exit 0 ∧ S1 M A 0 s) k) := by
  rintro n hn k s ⟨x, h, q, rfl, hqk, v1, v8, v9, hg⟩
  have hl := o.len
  by_cases hq : q < M.length
  · have w1 : IntKind.i64.wrap ((q : Int) + 1) = (q : Int) + 1 := wrap_i64 (by omega) (by omega)
    have y1 := yCs_len M.length (A q)
    have g2 := fun h' => yCs_at (y := A q) hq h'
    have d1 := o.diag q hq
    have i3 : q + 1 ≤ M.length := hq
    simp only [intsD, rowsD] at hg
    simp [k70l1, v1, v8, v9, hq, D.cells, D.one, hg, y1, g2, d1, i3, ev_loop]
    refine Res.after (Res.block (lp_rule 100 (S0 M A q) _ (cl_round0 o hq) M.length n _ (by omega) ⟨_, _, 0, rfl, by omega, by simp [v1], by simp, by simp [v8], by simp [v9], by simp, by simp, by simp [hg, intsD, rowsD]⟩) (Q := fun x s => x = .normal ∧ S0 M A q 0 s) ?_) ?_
    · rintro x s ⟨rfl, hr⟩
      simpa using hr
    · rintro x s ⟨rfl, x, h, q', rfl, hq', u1, u3, u8, u9, u15, u16, hg'⟩
      simp [u9, w1]
      exact ⟨k - 1, by omega, _, _, q + 1, rfl, by omega, by simp [u1], by simp [u8], by simp, by simp [hg']⟩
  · simp [k70l1, v8, v9, hq]
    exact ⟨_, _, q, rfl, by omega, by simp [v1], by simp [v8], by simp [v9], by simp [hg]⟩
theorem clsd_run {M : List Int} {A : Nat → Nat → Int} (o : NOk M A) {n : Nat} (hn : 400 ≤ n) : pureCall (rc pg n) 70 [nD M A] = some (.ret (D.bool true)) := by
  obtain ⟨m, rfl, e⟩ := body (pg := pg) (f := 70) (args := [nD M A]) (show 0 < n by omega) rfl rfl
  rw [e]
  have hl := o.len
  simp [k70, Env.v_ini, nD, intsD, rowsD, D.cells, D.one, ev_loop]
  refine Res.endsAfter (lp_rule 200 (S1 M A) _ (cl_round1 o) M.length m _ (by omega) ⟨_, _, 0, rfl, by omega, by simp, by simp, by simp, by simp [intsD, rowsD]⟩) ?_
  rintro x s ⟨rfl, x, h, q, rfl, _⟩
  simp
theorem range_run {M : List Int} {A : Nat → Nat → Int} (o : NOk M A) {n : Nat} (hn : 400 ≤ n) : pureCall (rc pg n) 69 [nD M A] = some (.ret (D.bool true)) := by
  obtain ⟨m, rfl, e⟩ := body (pg := pg) (f := 69) (args := [nD M A]) (show 0 < n by omega) rfl rfl
  rw [e]
  have hl := o.len
  simp [k69, Env.v_ini, nD, intsD, rowsD, D.cells, D.one, ev_loop]
  refine Res.endsAfter (lp_rule 100 (R1 M A) _ (in_round1 o) M.length m _ (by omega) ⟨_, _, 0, rfl, by omega, by simp, by simp, by simp, by simp [intsD, rowsD]⟩) ?_
  rintro x s ⟨rfl, x, h, q, rfl, _⟩
  simp
def H0 (M : List Int) (A : Nat → Nat → Int) (k : Nat) (s : St) : Prop := ∃ (x : Env 59) (h : Heap) (q : Nat) (la : Int), s = ⟨x.l, h, []⟩ ∧ q + k = M.length ∧ x.v 1 = .ptr 1 0 ∧ x.v 3 = D.int la ∧ x.v 24 = D.int M.length ∧ x.v 25 = D.int q ∧ h.get 1 = some (.cells 90 [intsD M, rowsD M.length A]) ∧ -1 ≤ la ∧ la ≤ 2048 ∧ ∀ hq : q < M.length, la < M[q]
set_option maxHeartbeats 8000000 in
theorem form_round {M : List Int} {A : Nat → Nat → Int} (o : NOk M A) : ∀ n, 1 ≤ n → ∀ k s, H0 M A k s → Res (k68l0.ev ⟨pg, 59, none⟩ (rc pg n) s) (Rnd (H0 M A) (fun x s => x = .exit 0 ∧ H0 M A 0 s) k) := by
  rintro n hn k s ⟨x, h, q, la, rfl, hqk, v1, v3, v24, v25, hg, a1, a2, a3⟩
  have hl := o.len
  by_cases hq : q < M.length
  · have w1 : IntKind.i64.wrap ((q : Int) + 1) = (q : Int) + 1 := wrap_i64 (by omega) (by omega)
    have w2 : IntKind.i64.wrap (la + 1) = la + 1 := wrap_i64 (by omega) (by omega)
    have y1 := yCs_len M.length (A q)
    have hm := a3 hq
    obtain ⟨v, hv⟩ : ∃ v, M[q] = v := ⟨_, rfl⟩
    have hin := o.in_ v (by rw [← hv]; exact List.getElem_mem hq)
    rw [hv] at hm
    have hr : inR v (la + 1) 2048 = true := by unfold inR; simp; omega
    have s53 : pg.sh 53 = false := rfl
    have hw : pureCall (rc pg n) 53 [D.int v, D.int (la + 1), D.int 2048] = some (.ret (D.bool true)) := by
      obtain ⟨m, rfl, e⟩ := body (pg := pg) (f := 53) (args := [D.int v, D.int (la + 1), D.int 2048]) (show 0 < n by omega) rfl rfl
      rw [e]
      have e1 : la + 1 ≤ v := by omega
      have e2 : v ≤ 2048 := by omega
      simp [k53, Env.v_ini, e1, e2]
    simp only [intsD, rowsD] at hg
    simp [k68l0, v1, v3, v24, v25, hq, D.cells, D.one, hg, hv, w2, dcore_f, s53, hw, y1, w1]
    refine ⟨k - 1, by omega, _, _, q + 1, v, rfl, by omega, by simp [v1], by simp, by simp [v24], by simp, by simp [hg, intsD, rowsD], by omega, by omega, fun hq' => ?_⟩
    rw [← hv]
    exact List.pairwise_iff_getElem.1 o.rise q (q + 1) hq hq' (by omega)
  · simp [k68l0, v24, v25, hq]
    exact ⟨_, _, q, la, rfl, by omega, by simp [v1], by simp [v3], by simp [v24], by simp [v25], by simp [hg], a1, a2, a3⟩
theorem form_run {M : List Int} {A : Nat → Nat → Int} (o : NOk M A) {n : Nat} (hn : 400 ≤ n) : pureCall (rc pg n) 68 [nD M A] = some (.ret (D.bool true)) := by
  obtain ⟨m, rfl, e⟩ := body (pg := pg) (f := 68) (args := [nD M A]) (show 0 < n by omega) rfl rfl
  rw [e]
  have hl := o.len
  have hl' : ¬ (64 : Int) < M.length := by omega
  simp [k68, Env.v_ini, nD, intsD, rowsD, D.cells, D.one, hl', ev_loop]
  refine Res.endsAfter (lp_rule 1 (H0 M A) _ (form_round o) M.length m _ (by omega) ⟨_, _, 0, -1, rfl, by omega, by simp, by simp, by simp, by simp, by simp [intsD, rowsD], by omega, by omega, fun hq => ?_⟩) ?_
  · have := o.in_ _ (List.getElem_mem hq)
    omega
  rintro x s ⟨rfl, x, h, q, la, rfl, _⟩
  simp
theorem check_net {M : List Int} {A : Nat → Nat → Int} (o : NOk M A) {n : Nat} (hn : 500 ≤ n) : pureCall (rc pg n) 27 [nD M A] = some (.ret (D.int 0)) := by
  obtain ⟨m, rfl, e⟩ := body (pg := pg) (f := 27) (args := [nD M A]) (show 0 < n by omega) rfl rfl
  rw [e]
  have hc1 := ints_canonL M
  have hc2 := rows_canonL M.length A
  have f1 := fun h => call_of (h := h) (pg := pg) (f := 68) rfl (by simp [nD, intsD, rowsD, hc1, hc2]) (form_run o (show 400 ≤ m by omega))
  have f2 := fun h => call_of (h := h) (pg := pg) (f := 69) rfl (by simp [nD, intsD, rowsD, hc1, hc2]) (range_run o (show 400 ≤ m by omega))
  have f3 := fun h => call_of (h := h) (pg := pg) (f := 70) rfl (by simp [nD, intsD, rowsD, hc1, hc2]) (clsd_run o (show 400 ≤ m by omega))
  simp only [nD, intsD, rowsD] at f1 f2 f3
  simp [k27, Env.v_ini, nD, intsD, rowsD, D.cells, D.one, f1, f2, f3]
theorem check_nil {n : Nat} (hn : 500 ≤ n) : pureCall (rc pg n) 27 [.agg [.sl false [], .sl false []]] = some (.ret (D.int 0)) :=
  check_net (M := []) (A := fun _ _ => 0) ⟨by simp, List.Pairwise.nil, by simp, by simp, by simp, by simp⟩ hn
/-- The closure of claims is such a net. -/
theorem clo_wide {l : List Clm} (h0 : chkF l = 0) (hb : badF l = false) {i j : Nat} {z : Int} (hz : cloF l i j = some z) : -20000000 ≤ z ∧ z ≤ 20000000 := by
  have g := good_movs h0
  have k := kn_EF g.hin
  have hn := (chk_ok h0).2.2
  have hd := (bad_iff h0).1 hb
  have hB : ∀ i j c, netF l i j = some c → -100000 ≤ c ∧ c ≤ 100000 := by
    intro i j c hc
    rcases k.he i j c hc with ⟨_, rfl⟩ | hm
    · omega
    · obtain ⟨m, hm1, hm2⟩ := List.mem_map.1 hm
      have := g.bd m hm1
      have e : m.mo = c := (Prod.mk.inj (Prod.mk.inj hm2).2).2
      omega
  have := fw_bounds (B := 100000) (by omega) hB g.symE k.out (marksF l).length (Nat.le_refl _) hd hz
  omega
theorem clo_nok {l : List Clm} (h0 : chkF l = 0) (hb : badF l = false) : NOk (marksF l) (encM (cloF l)) := by
  obtain ⟨h1, h2, h3⟩ := chk_ok h0
  have c := clo_clsd h0 hb
  have bt := clo_small h0 hb
  refine ⟨h3, marks_rise l, fun v hv => ?_, fun i hi => ?_, fun i j hi hj => ?_, fun i j k hi hj hk ha hb' => ?_⟩
  · obtain ⟨q, hq, e⟩ := (marks_mem l v).1 hv
    have := ok_marks (h2 q hq)
    rcases e with rfl | rfl <;> omega
  · exact enc_some (c.diag i hi)
  · cases e : cloF l i j with
    | none => exact .inl ((enc_far bt).2 e)
    | some z => have := clo_wide h0 hb e; right; rw [enc_some e]; omega
  · obtain ⟨a, ea⟩ := Option.ne_none_iff_exists'.1 (show cloF l i j ≠ none from fun e => ha ((enc_far bt).2 e))
    obtain ⟨b, eb⟩ := Option.ne_none_iff_exists'.1 (show cloF l j k ≠ none from fun e => hb' ((enc_far bt).2 e))
    obtain ⟨z, h4, h5⟩ := c.via hj ea eb
    rw [enc_some ea, enc_some eb, enc_some h4]
    exact h5
end Go.Proofs.YtjgafgkkpofgbaaDoor
/- The closure of claims, by the program's exported function; nets that are equal; claims with one more. -/
namespace Go.Proofs.YtjgafgkkpofgbaaDoor
open Go Go.Em Go.Em.Net
set_option maxRecDepth 100000
def nilN : D := .agg [.sl false [], .sl false []]
/-- Close's error. -/
def cerF (l : List Clm) : Int := if chkF l ≠ 0 then chkF l else if badF l = true then 25 else 0
def cloD' (l : List Clm) : D := .tup [if cerF l = 0 then nD (marksF l) (encM (cloF l)) else nilN, D.int (cerF l)]
theorem cer_ok {l : List Clm} (h : cerF l = 0) : chkF l = 0 ∧ badF l = false := by
  unfold cerF at h
  split at h
  · rename_i h1; exact absurd h h1
  · rename_i h1
    split at h
    · cases h
    · rename_i h2; exact ⟨by simpa using h1, by simpa using h2⟩
theorem cer_of {l : List Clm} (h0 : chkF l = 0) (hb : badF l = false) : cerF l = 0 := by unfold cerF; simp [h0, hb]
set_option maxHeartbeats 8000000 in
theorem close_run (l : List Clm) {f : Nat} (hf : 1200 ≤ f) : pureCall (rc pg f) 24 [clsD l] = some (.ret (cloD' l)) := by
  obtain ⟨m, rfl, e⟩ := body (pg := pg) (f := 24) (args := [clsD l]) (show 0 < f by omega) rfl rfl
  rw [e]
  have c30 := fun h => call_of (h := h) (pg := pg) (f := 52) rfl (cls_canon l) (@chk_run l m (by omega))
  simp only [clsD] at c30
  by_cases h0 : chkF l = 0
  · rw [h0] at c30
    have c46 := fun h => call_of (h := h) (pg := pg) (f := 65) rfl (two_ok l) (@graph_run l h0 m (by omega))
    have c48 := fun h => call_of (h := h) (pg := pg) (f := 64) rfl (gr_canon (marksF l) (movsF (marksF l) 0 l)) (@closure_all l h0 m (by omega))
    simp only [clsD, eachD, grD, intsD, mosD] at c46 c48
    have hc1 := ints_canonL (marksF l)
    cases hbad : badF l with
    | true =>
      have e0 : cerF l = 25 := by unfold cerF; simp [h0, hbad]
      have e1 : cloD' l = .tup [nilN, D.int 25] := by unfold cloD'; rw [e0]; rfl
      rw [hbad] at c48
      simp only [cond_true] at c48
      simp [-beq_iff_eq, k24, Env.v_ini, clsD, D.cells, D.one, c30, c46, c48, e1, nilN]
    | false =>
      have e0 : cerF l = 0 := cer_of h0 hbad
      have e1 : cloD' l = .tup [nD (marksF l) (encM (cloF l)), D.int 0] := by unfold cloD'; rw [e0]; rfl
      rw [hbad] at c48
      simp only [cond_false] at c48
      have hcX := rows_canonL (marksF l).length (encM (cloF l))
      have hx20 := fun H => each_canon H 20 _ hcX
      unfold rowsD at c48
      simp [-beq_iff_eq, k24, Env.v_ini, clsD, D.cells, D.one, c30, c46, c48, e1, nD, intsD, rowsD, hx20]
  · have h0' : (chkF l != 0) = true := by simpa using h0
    have e0 : cerF l = chkF l := by unfold cerF; rw [if_pos h0]
    have e1 : cloD' l = .tup [nilN, D.int (chkF l)] := by unfold cloD'; rw [e0, if_neg h0]
    simp [-bne_iff_ne, k24, Env.v_ini, clsD, D.cells, D.one, c30, h0', e1, nilN]
/-! ### Equal nets -/
theorem sameF_self (a : List Int) : sameF a a = true := by unfold sameF; simp
def SN (M : List Int) (A : Nat → Nat → Int) (k : Nat) (s : St) : Prop := ∃ (x : Env 40) (h : Heap) (q : Nat), s = ⟨x.l, h, []⟩ ∧ q + k = M.length ∧ x.v 2 = .ptr 2 0 ∧ x.v 3 = .ptr 3 0 ∧ x.v 23 = D.int M.length ∧ x.v 24 = D.int q ∧ h.get 2 = some (.cells 42 [intsD M, rowsD M.length A]) ∧ h.get 3 = some (.cells 42 [intsD M, rowsD M.length A])
theorem yCs_ints (n : Nat) (y : Nat → Int) : yCs n y = ((List.range n).map y).map D.int := by unfold yCs; rw [List.map_map]; rfl
set_option maxHeartbeats 8000000 in
theorem sn_round (M : List Int) (A : Nat → Nat → Int) (hl : M.length ≤ 64) : ∀ n, 80 ≤ n → ∀ k s, SN M A k s → Res (k26l0.ev ⟨pg, 40, none⟩ (rc pg n) s) (Rnd (SN M A) (fun x s => x = .exit 0 ∧ SN M A 0 s) k) := by
  rintro n hn k s ⟨x, h, q, rfl, hqk, v2, v3, v23, v24, hg, hg'⟩
  by_cases hq : q < M.length
  · have w1 : IntKind.i64.wrap ((q : Int) + 1) = (q : Int) + 1 := wrap_i64 (by omega) (by omega)
    have s51 : pg.sh 51 = false := rfl
    have f1 := @sameI_run ((List.range M.length).map (A q)) ((List.range M.length).map (A q)) (by simp; omega) n (by simp; omega)
    rw [sameF_self] at f1
    simp only [intsD, ← yCs_ints] at f1
    have hc := yCs_canon M.length (A q)
    simp only [intsD, rowsD] at hg hg'
    simp [k26l0, v2, v3, v23, v24, hq, D.cells, D.one, hg, hg', dcore_f, s51, f1, hc, w1]
    exact ⟨k - 1, by omega, _, _, q + 1, rfl, by omega, by simp [v2], by simp [v3], by simp [v23], by simp, by simp [hg, intsD, rowsD], by simp [hg', intsD, rowsD]⟩
  · simp [k26l0, v23, v24, hq]
    exact ⟨_, _, q, rfl, by omega, by simp [v2], by simp [v3], by simp [v23], by simp [v24], by simp [hg], by simp [hg']⟩
theorem same_net (M : List Int) (A : Nat → Nat → Int) (hl : M.length ≤ 64) {n : Nat} (hn : 300 ≤ n) : pureCall (rc pg n) 26 [nD M A, nD M A] = some (.ret (D.bool true)) := by
  obtain ⟨m, rfl, e⟩ := body (pg := pg) (f := 26) (args := [nD M A, nD M A]) (show 0 < n by omega) rfl rfl
  rw [e]
  have f1 := fun h => call_of (h := h) (pg := pg) (f := 51) rfl (by simp [intsD, ints_canonL]) (@sameI_run M M (by omega) m (by omega))
  rw [sameF_self] at f1
  simp only [intsD] at f1
  simp [k26, Env.v_ini, nD, intsD, rowsD, D.cells, D.one, f1, ev_loop]
  refine Res.endsAfter (lp_rule 80 (SN M A) _ (sn_round M A hl) M.length m _ (by omega) ⟨_, _, 0, rfl, by omega, by simp, by simp, by simp, by simp, by simp [intsD, rowsD], by simp [intsD, rowsD]⟩) ?_
  rintro x s ⟨rfl, x, h, q, rfl, _⟩
  simp
theorem same_nil {n : Nat} (hn : 300 ≤ n) : pureCall (rc pg n) 26 [nilN, nilN] = some (.ret (D.bool true)) := same_net [] (fun _ _ => 0) (by simp) hn
end Go.Proofs.YtjgafgkkpofgbaaDoor
/- The closure does not depend on the order of the claims: rotations; one more claim; places; remainders. -/
namespace Go.Proofs.YtjgafgkkpofgbaaDoor
open Go Go.Em Go.Em.Net
set_option maxRecDepth 100000
theorem ix_place {v : Int} : ∀ {M : List Int} {i : Nat}, v ∈ M → ixP (· == v) i M = ((i + placeF M v : Nat) : Int)
  | [], _, h => absurd h List.not_mem_nil
  | a :: M, i, h => by
    unfold ixP placeF
    rw [List.idxOf_cons]
    by_cases e : a = v
    · subst e; simp
    · have e' : (a == v) = false := by simpa using e
      have hv : v ∈ M := by
        rcases List.mem_cons.1 h with h | h
        · exact absurd h.symm e
        · exact h
      have := ix_place (i := i + 1) hv
      unfold placeF at this
      simp only [e', Bool.false_eq_true, if_false, cond_false]
      rw [this]
      congr 1
      omega
end Go.Proofs.YtjgafgkkpofgbaaDoor
