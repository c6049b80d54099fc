/- Whether a net is closed, by the program: for whatever net. -/
import Derived.Test.YtlkpikdfbodhoaaDoorPl
namespace Go.Proofs.YtlkpikdfbodhoaaDoor
open Go Go.Em Go.Em.Net
set_option maxRecDepth 100000
theorem range_drop {n q : Nat} (h : q < n) : (List.range n).drop q = q :: (List.range n).drop (q + 1) := by
  rw [List.drop_eq_getElem_cons (by simpa using h)]
  simp
def overB (n : Nat) (A : Nat → Nat → Int) (i j k : Nat) : Bool := (A j k == 1000000000) || decide (A i k ≤ A i j + A j k)
def overA (n : Nat) (A : Nat → Nat → Int) (i j : Nat) : Bool := (List.range n).all fun k => overB n A i j k
def inB2 (A : Nat → Nat → Int) (i j : Nat) : Bool := (A i j == 1000000000) || inR (A i j) (-40000000) 40000000
def inA (n : Nat) (A : Nat → Nat → Int) : Bool := (List.range n).all fun i => (List.range n).all fun j => inB2 A i j
def ngB (n : Nat) (A : Nat → Nat → Int) (i j : Nat) : Bool := (A i j == 1000000000) || overA n A i j
def clA (n : Nat) (A : Nat → Nat → Int) : Bool := (List.range n).all fun i => (A i i == 0) && (List.range n).all fun j => ngB n A i j
def Wd2 (n : Nat) (A : Nat → Nat → Int) : Prop := ∀ i j, i < n → j < n → A i j = 1000000000 ∨ (-40000000 ≤ A i j ∧ A i j ≤ 40000000)
def OgI (M : List Int) (A : Nat → Nat → Int) (i j : Nat) (k : Nat) (s : St) : Prop := ∃ (x : Env 52) (h : Heap) (q : Nat), s = ⟨x.l, h, []⟩ ∧ q + k = M.length ∧ x.v 1 = D.int i ∧ x.v 2 = D.int j ∧ x.v 3 = .ptr 3 0 ∧ x.v 11 = D.int M.length ∧ x.v 12 = D.int q ∧ h.get 3 = some (.cells 74 [intsD M, rowsD M.length A]) ∧ overA M.length A i j = ((List.range M.length).drop q).all fun k => overB M.length A i j k
def OgQ (M : List Int) (A : Nat → Nat → Int) (i j : Nat) (x : Ex) (s : St) : Prop := (x = .exit 0 ∧ overA M.length A i j = true ∧ ∃ (x : Env 52) (h : Heap), s = ⟨x.l, h, []⟩) ∨ (x = .ret ∧ overA M.length A i j = false ∧ ∃ (x : Env 52) (h : Heap), s = ⟨x.l, h, []⟩ ∧ x.v 6 = D.bool false)
set_option maxHeartbeats 8000000 in
theorem og_round {M : List Int} (hl : M.length ≤ 64) {A : Nat → Nat → Int} (o : Wd2 M.length A) {i j : Nat} (hi : i < M.length) (hj : j < M.length) (hA : A i j ≠ 1000000000) : ∀ n, 1 ≤ n → ∀ k s, OgI M A i j k s → Res (k100l0.ev ⟨pg, 52, none⟩ (rc pg n) s) (Rnd (OgI M A i j) (OgQ M A i j) k) := by
  rintro n hn k s ⟨x, h, q, rfl, hqk, v1, v2, v3, v11, v12, hg, ho⟩
  by_cases hq : q < M.length
  · rw [range_drop hq, List.all_cons] at ho
    have w1 : IntKind.i64.wrap ((q : Int) + 1) = (q : Int) + 1 := wrap_i64 (by omega) (by omega)
    have s75 : pg.sh 49 = false := rfl
    have hc1 := ints_canonL M
    have hc2 := rows_canonL M.length A
    have f1 := far_run M A hj hq hn
    have y1 := fun a => yCs_len M.length (A a)
    have g1 := fun h' => yCs_at (y := A i) hj h'
    have g2 := fun h' => yCs_at (y := A i) hq h'
    have g3 := fun h' => yCs_at (y := A j) hq h'
    have i1 : i + 1 ≤ M.length := hi
    have i2 : j + 1 ≤ M.length := hj
    have i3 : q + 1 ≤ M.length := hq
    simp only [nD, intsD, rowsD] at f1 hg
    by_cases hf : A j q = 1000000000
    · have hf' : (A j q == 1000000000) = true := by simp [hf]
      have hob : overB M.length A i j q = true := by unfold overB; rw [hf']; rfl
      rw [hob, Bool.true_and] at ho
      simp [-beq_iff_eq, k100l0, v1, v2, v3, v11, v12, hq, D.cells, D.one, hg, dcore_f, s75, hc1, hc2, f1, hf', w1]
      exact ⟨k - 1, by omega, _, _, q + 1, rfl, by omega, by simp [v1], by simp [v2], by simp [v3], by simp [v11], by simp, by simp [hg, intsD, rowsD], ho⟩
    · have hf' : (A j q == 1000000000) = false := by simp [hf]
      have b1 := o i j hi hj
      have b2 := o j q hj hq
      have w2 : IntKind.i64.wrap (A i j + A j q) = A i j + A j q := wrap_i64 (by omega) (by omega)
      by_cases hgt : A i j + A j q < A i q
      · have hob : overB M.length A i j q = false := by unfold overB; rw [hf', Bool.false_or]; exact decide_eq_false (by omega)
        rw [hob, Bool.false_and] at ho
        simp [-beq_iff_eq, -beq_eq_false_iff_ne, k100l0, v1, v2, v3, v11, v12, hi, hj, hq, D.cells, D.one, hg, dcore_f, s75, hc1, hc2, f1, hf', y1, g1, g2, g3, i1, i2, i3, w2, hgt]
        exact .inr ⟨rfl, ho, _, _, rfl, by simp⟩
      · have hob : overB M.length A i j q = true := by unfold overB; rw [hf', Bool.false_or]; exact decide_eq_true (by omega)
        rw [hob, Bool.true_and] at ho
        simp [-beq_iff_eq, -beq_eq_false_iff_ne, k100l0, v1, v2, v3, v11, v12, hi, hj, hq, D.cells, D.one, hg, dcore_f, s75, hc1, hc2, f1, hf', w1, y1, g1, g2, g3, i1, i2, i3, w2, hgt]
        exact ⟨k - 1, by omega, _, _, q + 1, rfl, by omega, by simp [v1], by simp [v2], by simp [v3], by simp [v11], by simp, by simp [hg, intsD, rowsD], ho⟩
  · have hqM : q = M.length := by omega
    rw [hqM, List.drop_of_length_le (by simp), List.all_nil] at ho
    simp [k100l0, v11, v12, hq]
    exact .inl ⟨rfl, ho, _, _, rfl⟩
theorem over_gen {M : List Int} (hl : M.length ≤ 64) {A : Nat → Nat → Int} (o : Wd2 M.length A) {i j : Nat} (hi : i < M.length) (hj : j < M.length) (hA : A i j ≠ 1000000000) {n : Nat} (hn : 100 ≤ n) : pureCall (rc pg n) 100 [nD M A, D.int i, D.int j] = some (.ret (D.bool (overA M.length A i j))) := by
  obtain ⟨m, rfl, e⟩ := body (pg := pg) (f := 100) (args := [nD M A, D.int i, D.int j]) (show 0 < n by omega) rfl rfl
  rw [e]
  simp [k100, Env.v_ini, nD, intsD, rowsD, D.cells, D.one, ev_loop]
  refine Res.endsAfter (lp_rule 1 (OgI M A i j) _ (og_round hl o hi hj hA) M.length m _ (by omega) ⟨_, _, 0, rfl, by omega, by simp [Env.v_ini], by simp [Env.v_ini], by simp, by simp, by simp, by simp [intsD, rowsD], rfl⟩) ?_
  rintro x s (⟨rfl, ho, x, h, rfl⟩ | ⟨rfl, ho, x, h, rfl, v6⟩)
  · rw [ho]; simp
  · rw [ho]; simp [v6]
/-! All numbers in their range -/
def RgI0 (M : List Int) (A : Nat → Nat → Int) (i : Nat) (k : Nat) (s : St) : Prop := ∃ (x : Env 39) (h : Heap) (q : Nat), s = ⟨x.l, h, []⟩ ∧ q + k = M.length ∧ x.v 1 = .ptr 1 0 ∧ x.v 3 = D.int i ∧ x.v 8 = D.int M.length ∧ x.v 9 = D.int i ∧ x.v 15 = D.int M.length ∧ x.v 16 = D.int q ∧ h.get 1 = some (.cells 74 [intsD M, rowsD M.length A]) ∧ ((List.range M.length).all fun j => inB2 A i j) = ((List.range M.length).drop q).all fun j => inB2 A i j
def RgQ0 (M : List Int) (A : Nat → Nat → Int) (i : Nat) (x : Ex) (s : St) : Prop := (x = .exit 2 ∧ ((List.range M.length).all fun j => inB2 A i j) = true ∧ ∃ (x : Env 39) (h : Heap), s = ⟨x.l, h, []⟩ ∧ x.v 1 = .ptr 1 0 ∧ x.v 8 = D.int M.length ∧ x.v 9 = D.int i ∧ h.get 1 = some (.cells 74 [intsD M, rowsD M.length A])) ∨ (x = .ret ∧ ((List.range M.length).all fun j => inB2 A i j) = false ∧ ∃ (x : Env 39) (h : Heap), s = ⟨x.l, h, []⟩ ∧ x.v 2 = D.bool false)
set_option maxHeartbeats 8000000 in
theorem rg_round0 {M : List Int} (hl : M.length ≤ 64) (A : Nat → Nat → Int) {i : Nat} (hi : i < M.length) : ∀ n, 1 ≤ n → ∀ k s, RgI0 M A i k s → Res (k63l0.ev ⟨pg, 39, none⟩ (rc pg n) s) (Rnd (RgI0 M A i) (RgQ0 M A i) k) := by
  rintro n hn k s ⟨x, h, q, rfl, hqk, v1, v3, v8, v9, v15, v16, hg, ho⟩
  by_cases hq : q < M.length
  · rw [range_drop hq, List.all_cons] at ho
    have w1 : IntKind.i64.wrap ((q : Int) + 1) = (q : Int) + 1 := wrap_i64 (by omega) (by omega)
    have hc1 := ints_canonL M
    have hc2 := rows_canonL M.length A
    have f1 := fun h => call_of (h := h) (pg := pg) (f := 49) rfl (by simp [nD, intsD, rowsD, hc1, hc2]) (far_run M A hi hq hn)
    have y1 := fun a => yCs_len M.length (A a)
    have g2 := fun h' => yCs_at (y := A i) hq h'
    have i1 : i + 1 ≤ M.length := hi
    have i3 : q + 1 ≤ M.length := hq
    have hw := fun a lo hi h => within_run hn a lo hi h
    simp only [nD, intsD, rowsD] at f1 hg
    by_cases hf : A i q = 1000000000
    · have hf' : (A i q == 1000000000) = true := by simp [hf]
      have hob : inB2 A i q = true := by unfold inB2; rw [hf']; rfl
      rw [hob, Bool.true_and] at ho
      simp [-beq_iff_eq, k63l0, v1, v3, v8, v9, v15, v16, hq, D.cells, D.one, hg, f1, hf', w1]
      exact ⟨k - 1, by omega, _, _, q + 1, rfl, by omega, by simp [v1], by simp [v3], by simp [v8], by simp [v9], by simp [v15], by simp, by simp [hg, intsD, rowsD], ho⟩
    · have hf' : (A i q == 1000000000) = false := by simp [hf]
      cases hr : inR (A i q) (-40000000) 40000000 with
      | true =>
        have hob : inB2 A i q = true := by unfold inB2; rw [hf', hr]; rfl
        rw [hob, Bool.true_and] at ho
        simp [-beq_iff_eq, -beq_eq_false_iff_ne, k63l0, v1, v3, v8, v9, v15, v16, hi, hq, D.cells, D.one, hg, f1, hf', w1, y1, g2, i1, i3, hw, hr]
        exact ⟨k - 1, by omega, _, _, q + 1, rfl, by omega, by simp [v1], by simp [v3], by simp [v8], by simp [v9], by simp [v15], by simp, by simp [hg, intsD, rowsD], ho⟩
      | false =>
        have hob : inB2 A i q = false := by unfold inB2; rw [hf', hr]; rfl
        rw [hob, Bool.false_and] at ho
        simp [-beq_iff_eq, -beq_eq_false_iff_ne, k63l0, v1, v3, v8, v9, v15, v16, hi, hq, D.cells, D.one, hg, f1, hf', y1, g2, i1, i3, hw, hr]
        exact .inr ⟨rfl, ho, _, _, rfl, by simp⟩
  · have hqM : q = M.length := by omega
    rw [hqM, List.drop_of_length_le (by simp), List.all_nil] at ho
    simp [k63l0, v15, v16, hq]
    exact .inl ⟨rfl, ho, _, _, rfl, by simp [v1], by simp [v8], by simp [v9], by simp [hg]⟩
end Go.Proofs.YtlkpikdfbodhoaaDoor
/- Whether a net is closed, by the program: for whatever net of the right form. -/
namespace Go.Proofs.YtlkpikdfbodhoaaDoor
open Go Go.Em Go.Em.Net
set_option maxRecDepth 100000
def rowB2 (n : Nat) (A : Nat → Nat → Int) (i : Nat) : Bool := (List.range n).all fun j => inB2 A i j
def RgI1 (M : List Int) (A : Nat → Nat → Int) (k : Nat) (s : St) : Prop := ∃ (x : Env 39) (h : Heap) (q : Nat), s = ⟨x.l, h, []⟩ ∧ q + k = M.length ∧ x.v 1 = .ptr 1 0 ∧ x.v 8 = D.int M.length ∧ x.v 9 = D.int q ∧ h.get 1 = some (.cells 74 [intsD M, rowsD M.length A]) ∧ inA M.length A = ((List.range M.length).drop q).all fun i => rowB2 M.length A i
def RgQ1 (M : List Int) (A : Nat → Nat → Int) (x : Ex) (s : St) : Prop := (x = .exit 0 ∧ inA M.length A = true ∧ ∃ (x : Env 39) (h : Heap), s = ⟨x.l, h, []⟩) ∨ (x = .ret ∧ inA M.length A = false ∧ ∃ (x : Env 39) (h : Heap), s = ⟨x.l, h, []⟩ ∧ x.v 2 = D.bool false)
set_option maxHeartbeats 8000000 in
theorem rg_round1 {M : List Int} (hl : M.length ≤ 64) (A : Nat → Nat → Int) : ∀ n, 100 ≤ n → ∀ k s, RgI1 M A k s → Res (k63l1.ev ⟨pg, 39, none⟩ (rc pg n) s) (Rnd (RgI1 M A) (RgQ1 M A) k) := by
  rintro n hn k s ⟨x, h, q, rfl, hqk, v1, v8, v9, hg, ho⟩
  by_cases hq : q < M.length
  · rw [range_drop hq, List.all_cons] at ho
    have w1 : IntKind.i64.wrap ((q : Int) + 1) = (q : Int) + 1 := wrap_i64 (by omega) (by omega)
    simp only [intsD, rowsD] at hg
    simp [k63l1, v1, v8, v9, hq, D.cells, hg, ev_loop]
    refine Res.after (Res.block (lp_rule 1 (RgI0 M A q) _ (rg_round0 hl A hq) M.length n _ (by omega) ⟨_, _, 0, rfl, by omega, by simp [v1], by simp, by simp [v8], by simp [v9], by simp, by simp, by simp [hg, intsD, rowsD], rfl⟩) (Q := fun x s => (x = .normal ∧ rowB2 M.length A q = true ∧ ∃ (x : Env 39) (h : Heap), s = ⟨x.l, h, []⟩ ∧ x.v 1 = .ptr 1 0 ∧ x.v 8 = D.int M.length ∧ x.v 9 = D.int q ∧ h.get 1 = some (.cells 74 [intsD M, rowsD M.length A])) ∨ (x = .ret ∧ rowB2 M.length A q = false ∧ ∃ (x : Env 39) (h : Heap), s = ⟨x.l, h, []⟩ ∧ x.v 2 = D.bool false)) ?_) ?_
    · rintro x s (⟨rfl, hr⟩ | ⟨rfl, hr⟩)
      · simpa [rowB2] using hr
      · simpa [rowB2] using hr
    · rintro x s (⟨rfl, hb, x, h, rfl, u1, u8, u9, hg'⟩ | ⟨rfl, hb, x, h, rfl, u2⟩)
      · rw [hb, Bool.true_and] at ho
        simp [u9, w1]
        exact ⟨k - 1, by omega, _, _, q + 1, rfl, by omega, by simp [u1], by simp [u8], by simp, by simp [hg'], ho⟩
      · rw [hb, Bool.false_and] at ho
        simp
        exact .inr ⟨rfl, ho, _, _, rfl, u2⟩
  · have hqM : q = M.length := by omega
    rw [hqM, List.drop_of_length_le (by simp), List.all_nil] at ho
    simp [k63l1, v8, v9, hq]
    exact .inl ⟨rfl, ho, _, _, rfl⟩
theorem inA_gen {M : List Int} (hl : M.length ≤ 64) (A : Nat → Nat → Int) {n : Nat} (hn : 400 ≤ n) : pureCall (rc pg n) 63 [nD M A] = some (.ret (D.bool (inA M.length A))) := by
  obtain ⟨m, rfl, e⟩ := body (pg := pg) (f := 63) (args := [nD M A]) (show 0 < n by omega) rfl rfl
  rw [e]
  simp [k63, Env.v_ini, nD, intsD, rowsD, D.cells, D.one, ev_loop]
  refine Res.endsAfter (lp_rule 100 (RgI1 M A) _ (rg_round1 hl A) M.length m _ (by omega) ⟨_, _, 0, rfl, by omega, by simp, by simp, by simp, by simp [intsD, rowsD], rfl⟩) ?_
  rintro x s (⟨rfl, ho, x, h, rfl⟩ | ⟨rfl, ho, x, h, rfl, v2⟩)
  · rw [ho]; simp
  · rw [ho]; simp [v2]
/-! No number can be lowered -/
def ClI0 (M : List Int) (A : Nat → Nat → Int) (i : Nat) (k : Nat) (s : St) : Prop := ∃ (x : Env 43) (h : Heap) (q : Nat), s = ⟨x.l, h, []⟩ ∧ q + k = M.length ∧ x.v 1 = .ptr 1 0 ∧ x.v 3 = D.int i ∧ x.v 8 = D.int M.length ∧ x.v 9 = D.int i ∧ x.v 25 = D.int M.length ∧ x.v 26 = D.int q ∧ h.get 1 = some (.cells 74 [intsD M, rowsD M.length A]) ∧ ((List.range M.length).all fun j => ngB M.length A i j) = ((List.range M.length).drop q).all fun j => ngB M.length A i j
def ClQ0 (M : List Int) (A : Nat → Nat → Int) (i : Nat) (x : Ex) (s : St) : Prop := (x = .exit 2 ∧ ((List.range M.length).all fun j => ngB M.length A i j) = true ∧ ∃ (x : Env 43) (h : Heap), s = ⟨x.l, h, []⟩ ∧ x.v 1 = .ptr 1 0 ∧ x.v 8 = D.int M.length ∧ x.v 9 = D.int i ∧ h.get 1 = some (.cells 74 [intsD M, rowsD M.length A])) ∨ (x = .ret ∧ ((List.range M.length).all fun j => ngB M.length A i j) = false ∧ ∃ (x : Env 43) (h : Heap), s = ⟨x.l, h, []⟩ ∧ x.v 2 = D.bool false)
set_option maxHeartbeats 8000000 in
theorem ng_round0 {M : List Int} (hl : M.length ≤ 64) {A : Nat → Nat → Int} (o : Wd2 M.length A) {i : Nat} (hi : i < M.length) : ∀ n, 100 ≤ n → ∀ k s, ClI0 M A i k s → Res (k69l0.ev ⟨pg, 43, none⟩ (rc pg n) s) (Rnd (ClI0 M A i) (ClQ0 M A i) k) := by
  rintro n hn k s ⟨x, h, q, rfl, hqk, v1, v3, v8, v9, v15, v16, hg, ho⟩
  by_cases hq : q < M.length
  · rw [range_drop hq, List.all_cons] at ho
    have w1 : IntKind.i64.wrap ((q : Int) + 1) = (q : Int) + 1 := wrap_i64 (by omega) (by omega)
    have hc1 := ints_canonL M
    have hc2 := rows_canonL M.length A
    have f1 := fun h => call_of (h := h) (pg := pg) (f := 49) rfl (by simp [nD, intsD, rowsD, hc1, hc2]) (far_run M A hi hq (show 1 ≤ n by omega))
    simp only [nD, intsD, rowsD] at f1 hg
    by_cases hf : A i q = 1000000000
    · have hf' : (A i q == 1000000000) = true := by simp [hf]
      have hob : ngB M.length A i q = true := by unfold ngB; rw [hf']; rfl
      rw [hob, Bool.true_and] at ho
      simp [-beq_iff_eq, k69l0, v1, v3, v8, v9, v15, v16, hq, D.cells, D.one, hg, f1, hf', w1]
      exact ⟨k - 1, by omega, _, _, q + 1, rfl, by omega, by simp [v1], by simp [v3], by simp [v8], by simp [v9], by simp [v15], by simp, by simp [hg, intsD, rowsD], ho⟩
    · have hf' : (A i q == 1000000000) = false := by simp [hf]
      have f2 := fun h => call_of (h := h) (pg := pg) (f := 100) rfl (by simp [nD, intsD, rowsD, hc1, hc2]) (over_gen hl o hi hq hf (show 100 ≤ n by omega))
      simp only [nD, intsD, rowsD] at f2
      cases hb : overA M.length A i q with
      | true =>
        have hob : ngB M.length A i q = true := by unfold ngB; rw [hf', hb]; rfl
        rw [hob, Bool.true_and] at ho
        simp [-beq_iff_eq, -beq_eq_false_iff_ne, k69l0, v1, v3, v8, v9, v15, v16, hq, D.cells, D.one, hg, f1, f2, hb, hf', w1]
        exact ⟨k - 1, by omega, _, _, q + 1, rfl, by omega, by simp [v1], by simp [v3], by simp [v8], by simp [v9], by simp [v15], by simp, by simp [hg, intsD, rowsD], ho⟩
      | false =>
        have hob : ngB M.length A i q = false := by unfold ngB; rw [hf', hb]; rfl
        rw [hob, Bool.false_and] at ho
        simp [-beq_iff_eq, -beq_eq_false_iff_ne, k69l0, v1, v3, v8, v9, v15, v16, hq, D.cells, D.one, hg, f1, f2, hb, hf']
        exact .inr ⟨rfl, ho, _, _, rfl, by simp⟩
  · have hqM : q = M.length := by omega
    rw [hqM, List.drop_of_length_le (by simp), List.all_nil] at ho
    simp [k69l0, v15, v16, hq]
    exact .inl ⟨rfl, ho, _, _, rfl, by simp [v1], by simp [v8], by simp [v9], by simp [hg]⟩
def rowCl (n : Nat) (A : Nat → Nat → Int) (i : Nat) : Bool := (A i i == 0) && (List.range n).all fun j => ngB n A i j
def ClI1 (M : List Int) (A : Nat → Nat → Int) (k : Nat) (s : St) : Prop := ∃ (x : Env 43) (h : Heap) (q : Nat), s = ⟨x.l, h, []⟩ ∧ q + k = M.length ∧ x.v 1 = .ptr 1 0 ∧ x.v 8 = D.int M.length ∧ x.v 9 = D.int q ∧ h.get 1 = some (.cells 74 [intsD M, rowsD M.length A]) ∧ clA M.length A = ((List.range M.length).drop q).all fun i => rowCl M.length A i
def ClQ1 (M : List Int) (A : Nat → Nat → Int) (x : Ex) (s : St) : Prop := (x = .exit 0 ∧ clA M.length A = true ∧ ∃ (x : Env 43) (h : Heap), s = ⟨x.l, h, []⟩) ∨ (x = .ret ∧ clA M.length A = false ∧ ∃ (x : Env 43) (h : Heap), s = ⟨x.l, h, []⟩ ∧ x.v 2 = D.bool false)
set_option maxHeartbeats 8000000 in
theorem ng_round1 {M : List Int} (hl : M.length ≤ 64) {A : Nat → Nat → Int} (o : Wd2 M.length A) : ∀ n, 200 ≤ n → ∀ k s, ClI1 M A k s → Res (k69l1.ev ⟨pg, 43, none⟩ (rc pg n) s) (Rnd (ClI1 M A) (ClQ1 M A) k) := by
  rintro n hn k s ⟨x, h, q, rfl, hqk, v1, v8, v9, hg, ho⟩
  by_cases hq : q < M.length
  · rw [range_drop hq, List.all_cons] at ho
    have w1 : IntKind.i64.wrap ((q : Int) + 1) = (q : Int) + 1 := wrap_i64 (by omega) (by omega)
    have y1 := yCs_len M.length (A q)
    have g2 := fun h' => yCs_at (y := A q) hq h'
    have i3 : q + 1 ≤ M.length := hq
    simp only [intsD, rowsD] at hg
    by_cases d1 : A q q = 0
    · have d1' : (A q q == 0) = true := by simp [d1]
      simp [k69l1, v1, v8, v9, hq, D.cells, D.one, hg, y1, g2, d1, i3, ev_loop]
      refine Res.after (Res.block (lp_rule 100 (ClI0 M A q) _ (ng_round0 hl o hq) M.length n _ (by omega) ⟨_, _, 0, rfl, by omega, by simp [v1], by simp, by simp [v8], by simp [v9], by simp, by simp, by simp [hg, intsD, rowsD], rfl⟩) (Q := fun x s => (x = .normal ∧ rowCl M.length A q = true ∧ ∃ (x : Env 43) (h : Heap), s = ⟨x.l, h, []⟩ ∧ x.v 1 = .ptr 1 0 ∧ x.v 8 = D.int M.length ∧ x.v 9 = D.int q ∧ h.get 1 = some (.cells 74 [intsD M, rowsD M.length A])) ∨ (x = .ret ∧ rowCl M.length A q = false ∧ ∃ (x : Env 43) (h : Heap), s = ⟨x.l, h, []⟩ ∧ x.v 2 = D.bool false)) ?_) ?_
      · rintro x s (⟨rfl, hb, hr⟩ | ⟨rfl, hb, hr⟩)
        · have hR : rowCl M.length A q = true := by unfold rowCl; rw [d1', hb]; rfl
          simpa [hR] using hr
        · have hR : rowCl M.length A q = false := by unfold rowCl; rw [d1', hb]; rfl
          simpa [hR] using hr
      · rintro x s (⟨rfl, hb, x, h, rfl, u1, u8, u9, hg'⟩ | ⟨rfl, hb, x, h, rfl, u2⟩)
        · rw [hb, Bool.true_and] at ho
          simp [u9, w1]
          exact ⟨k - 1, by omega, _, _, q + 1, rfl, by omega, by simp [u1], by simp [u8], by simp, by simp [hg'], ho⟩
        · rw [hb, Bool.false_and] at ho
          simp
          exact .inr ⟨rfl, ho, _, _, rfl, u2⟩
    · have d1' : (A q q == 0) = false := by simp [d1]
      have hob : rowCl M.length A q = false := by unfold rowCl; rw [d1']; rfl
      rw [hob, Bool.false_and] at ho
      have d2 : (A q q != 0) = true := by simp [d1]
      simp [-bne_iff_ne, k69l1, v1, v8, v9, hq, D.cells, D.one, hg, y1, g2, d2, i3]
      exact .inr ⟨rfl, ho, _, _, rfl, by simp⟩
  · have hqM : q = M.length := by omega
    rw [hqM, List.drop_of_length_le (by simp), List.all_nil] at ho
    simp [k69l1, v8, v9, hq]
    exact .inl ⟨rfl, ho, _, _, rfl⟩
theorem clsd_gen {M : List Int} (hl : M.length ≤ 64) {A : Nat → Nat → Int} (o : Wd2 M.length A) {n : Nat} (hn : 400 ≤ n) : pureCall (rc pg n) 69 [nD M A] = some (.ret (D.bool (clA M.length A))) := by
  obtain ⟨m, rfl, e⟩ := body (pg := pg) (f := 69) (args := [nD M A]) (show 0 < n by omega) rfl rfl
  rw [e]
  simp [k69, Env.v_ini, nD, intsD, rowsD, D.cells, D.one, ev_loop]
  refine Res.endsAfter (lp_rule 200 (ClI1 M A) _ (ng_round1 hl o) M.length m _ (by omega) ⟨_, _, 0, rfl, by omega, by simp, by simp, by simp, by simp [intsD, rowsD], rfl⟩) ?_
  rintro x s (⟨rfl, ho, x, h, rfl⟩ | ⟨rfl, ho, x, h, rfl, v2⟩)
  · rw [ho]; simp
  · rw [ho]; simp [v2]
end Go.Proofs.YtlkpikdfbodhoaaDoor
/- Whether a net has the right form, and is closed, by the program: for whatever net. -/
namespace Go.Proofs.YtlkpikdfbodhoaaDoor
open Go Go.Em Go.Em.Net
set_option maxRecDepth 100000
def rwD (R : List (List Int)) : D := .sl false (R.map intsD)
def nrD (M : List Int) (R : List (List Int)) : D := .agg [intsD M, rwD R]
theorem rw_canon (R : List (List Int)) : D.canonL (R.map intsD) = true := canonL_map _ (fun r => by simp [intsD, ints_canonL]) R
def frmF (n : Nat) : Int → List Int → List (List Int) → Bool
  | la, v :: M, r :: R => (inR v (la + 1) 2048 && (r.length == n)) && frmF n v M R
  | _, [], [] => true
  | _, _, _ => false
theorem frm_len {n : Nat} : ∀ {M : List Int} {R : List (List Int)} {la : Int}, frmF n la M R = true → R.length = M.length
  | [], [], _, _ => rfl
  | [], _ :: _, _, h => by simp [frmF] at h
  | _ :: _, [], _, h => by simp [frmF] at h
  | v :: M, r :: R, la, h => by
    rw [frmF, Bool.and_eq_true] at h
    have := frm_len h.2
    simp [this]
theorem frm_step {n : Nat} {la : Int} {M : List Int} {R : List (List Int)} {q : Nat} (hq : q < M.length) (hr : q < R.length) : frmF n la (M.drop q) (R.drop q) = ((inR M[q] (la + 1) 2048 && (R[q].length == n)) && frmF n M[q] (M.drop (q + 1)) (R.drop (q + 1))) := by
  rw [List.drop_eq_getElem_cons hq, List.drop_eq_getElem_cons hr, frmF]
def formF (M : List Int) (R : List (List Int)) : Bool := decide (M.length ≤ 64) && frmF M.length (-1) M R
def FmI (M : List Int) (R : List (List Int)) (k : Nat) (s : St) : Prop := ∃ (x : Env 59) (h : Heap) (q : Nat) (la : Int), s = ⟨x.l, h, []⟩ ∧ q + k = M.length ∧ x.v 1 = .ptr 1 0 ∧ x.v 3 = D.int la ∧ x.v 24 = D.int M.length ∧ x.v 25 = D.int q ∧ h.get 1 = some (.cells 74 [intsD M, rwD R]) ∧ -1 ≤ la ∧ la ≤ 2048 ∧ frmF M.length (-1) M R = frmF M.length la (M.drop q) (R.drop q)
def FmQ (M : List Int) (R : List (List Int)) (x : Ex) (s : St) : Prop := (x = .exit 0 ∧ frmF M.length (-1) M R = true ∧ ∃ (x : Env 59) (h : Heap), s = ⟨x.l, h, []⟩) ∨ (x = .ret ∧ frmF M.length (-1) M R = false ∧ ∃ (x : Env 59) (h : Heap), s = ⟨x.l, h, []⟩ ∧ x.v 2 = D.bool false)
theorem wn42 (v a b : Int) {n : Nat} (hn : 1 ≤ n) : pureCall (rc pg n) 42 [D.int v, D.int a, D.int b] = some (.ret (D.bool (inR v a b))) := by
  obtain ⟨m, rfl, e⟩ := body (pg := pg) (f := 42) (args := [D.int v, D.int a, D.int b]) (show 0 < n by omega) rfl rfl
  rw [e]
  by_cases e1 : a ≤ v
  · by_cases e2 : v ≤ b <;> simp [k42, Env.v_ini, e1, e2, inR]
  · simp [k42, Env.v_ini, e1, inR]
set_option maxHeartbeats 8000000 in
theorem fm_round {M : List Int} (hl : M.length ≤ 64) {R : List (List Int)} (hR : R.length = M.length) : ∀ n, 1 ≤ n → ∀ k s, FmI M R k s → Res (k68l0.ev ⟨pg, 59, none⟩ (rc pg n) s) (Rnd (FmI M R) (FmQ M R) k) := by
  rintro n hn k s ⟨x, h, q, la, rfl, hqk, v1, v3, v24, v25, hg, a1, a2, ho⟩
  by_cases hq : q < M.length
  · have hq2 : q < R.length := by omega
    rw [frm_step hq hq2] at ho
    have w1 : IntKind.i64.wrap ((q : Int) + 1) = (q : Int) + 1 := wrap_i64 (by omega) (by omega)
    have w2 : IntKind.i64.wrap (la + 1) = la + 1 := wrap_i64 (by omega) (by omega)
    obtain ⟨v, hv⟩ : ∃ v, M[q] = v := ⟨_, rfl⟩
    obtain ⟨r, hr⟩ : ∃ r, R[q] = r := ⟨_, rfl⟩
    rw [hv, hr] at ho
    have s53 : pg.sh 42 = false := rfl
    have hw := wn42 v (la + 1) 2048 hn
    simp only [intsD, rwD] at hg
    cases hi : inR v (la + 1) 2048 with
    | false =>
      rw [hi, Bool.false_and, Bool.false_and] at ho
      rw [hi] at hw
      simp [k68l0, v1, v3, v24, v25, hq, hq2, D.cells, D.one, hg, hv, w2, dcore_f, s53, hw, intsD]
      exact .inr ⟨rfl, ho, _, _, rfl, by simp⟩
    | true =>
      rw [hi, Bool.true_and] at ho
      rw [hi] at hw
      by_cases he : r.length = M.length
      · have he' : (r.length == M.length) = true := by simp [he]
        rw [he', Bool.true_and] at ho
        have hv1 : la + 1 ≤ v ∧ v ≤ 2048 := by
          unfold inR at hi; simp at hi; omega
        simp [k68l0, v1, v3, v24, v25, hq, hq2, D.cells, D.one, hg, hv, hr, w2, dcore_f, s53, hw, he, w1, intsD]
        exact ⟨k - 1, by omega, _, _, q + 1, v, rfl, by omega, by simp [v1], by simp, by simp [v24], by simp, by simp [hg, intsD, rwD], by omega, by omega, ho⟩
      · have he' : (r.length == M.length) = false := by simp [he]
        rw [he', Bool.false_and] at ho
        have he2 : ((r.length : Int) != (M.length : Int)) = true := by simp; omega
        simp [-bne_iff_ne, k68l0, v1, v3, v24, v25, hq, hq2, D.cells, D.one, hg, hv, hr, w2, dcore_f, s53, hw, he2, intsD]
        exact .inr ⟨rfl, ho, _, _, rfl, by simp⟩
  · have hqM : q = M.length := by omega
    rw [hqM, List.drop_of_length_le (Nat.le_refl _), List.drop_of_length_le (by omega)] at ho
    simp [k68l0, v24, v25, hq]
    exact .inl ⟨rfl, ho, _, _, rfl⟩
set_option maxHeartbeats 8000000 in
theorem form_gen (M : List Int) (R : List (List Int)) {n : Nat} (hn : 400 ≤ n) : pureCall (rc pg n) 68 [nrD M R] = some (.ret (D.bool (formF M R))) := by
  obtain ⟨m, rfl, e⟩ := body (pg := pg) (f := 68) (args := [nrD M R]) (show 0 < n by omega) rfl rfl
  rw [e]
  by_cases hl : M.length ≤ 64
  · have hl' : ¬ (64 : Int) < M.length := by omega
    by_cases hR : R.length = M.length
    · have hf : formF M R = frmF M.length (-1) M R := by unfold formF; simp [hl]
      rw [hf]
      simp [k68, Env.v_ini, nrD, intsD, rwD, D.cells, D.one, hl', hR, ev_loop]
      refine Res.endsAfter (lp_rule 1 (FmI M R) _ (fm_round hl hR) M.length m _ (by omega) ⟨_, _, 0, -1, rfl, by omega, by simp, by simp, by simp, by simp, by simp [intsD, rwD], by omega, by omega, rfl⟩) ?_
      rintro x s (⟨rfl, ho, x, h, rfl⟩ | ⟨rfl, ho, x, h, rfl, v2⟩)
      · rw [ho]; simp
      · rw [ho]; simp [v2]
    · have hf : formF M R = false := by
        unfold formF
        cases e : frmF M.length (-1) M R with
        | false => simp
        | true => exact absurd (frm_len e) hR
      have hR' : ((R.length : Int) != (M.length : Int)) = true := by simp; omega
      rw [hf]
      simp [-bne_iff_ne, k68, Env.v_ini, nrD, intsD, rwD, D.cells, D.one, hl', hR']
  · have hl' : (64 : Int) < M.length := by omega
    have hf : formF M R = false := by unfold formF; simp [hl]
    rw [hf]
    simp [k68, Env.v_ini, nrD, intsD, rwD, D.cells, D.one, hl']
end Go.Proofs.YtlkpikdfbodhoaaDoor
/- CheckNet, for whatever net; marks that rise, by the document. -/
namespace Go.Proofs.YtlkpikdfbodhoaaDoor
open Go Go.Em Go.Em.Net
set_option maxRecDepth 100000
def aR (R : List (List Int)) (i j : Nat) : Int := (R[i]?.getD [])[j]?.getD 0
theorem frm_rows {n : Nat} : ∀ {M : List Int} {R : List (List Int)} {la : Int}, frmF n la M R = true → ∀ r ∈ R, r.length = n
  | _, [], _, _ => fun r hr => absurd hr (by simp)
  | [], _ :: _, _, h => by simp [frmF] at h
  | v :: M, r :: R, la, h => by
    rw [frmF, Bool.and_eq_true, Bool.and_eq_true] at h
    intro q hq
    rcases List.mem_cons.1 hq with rfl | hq
    · simpa using h.1.2
    · exact frm_rows h.2 q hq
theorem rw_rows {n : Nat} {R : List (List Int)} (hR : R.length = n) (hr : ∀ r ∈ R, r.length = n) : rwD R = rowsD n (aR R) := by
  unfold rwD rowsD
  congr 1
  apply List.ext_getElem (by simp [hR])
  intro i h1 h2
  have h3 : i < R.length := by simpa using h1
  have h4 := hr R[i] (List.getElem_mem h3)
  rw [List.getElem_map, List.getElem_map, List.getElem_range]
  unfold intsD yCs
  congr 1
  apply List.ext_getElem (by simp [h4])
  intro j h5 h6
  have h7 : j < R[i].length := by simpa using h5
  rw [List.getElem_map, List.getElem_map, List.getElem_range]
  unfold aR
  simp [h3, h7]
theorem form_nD {M : List Int} {R : List (List Int)} (h : formF M R = true) : nrD M R = nD M (aR R) := by
  unfold formF at h
  rw [Bool.and_eq_true] at h
  unfold nrD nD
  rw [rw_rows (frm_len h.2) (frm_rows h.2)]
theorem inA_wd {n : Nat} {A : Nat → Nat → Int} (h : inA n A = true) : Wd2 n A := by
  intro i j hi hj
  unfold inA at h
  have h1 := List.all_eq_true.1 (List.all_eq_true.1 h i (by simpa using hi)) j (by simpa using hj)
  unfold inB2 at h1
  rw [Bool.or_eq_true] at h1
  rcases h1 with h1 | h1
  · exact .inl (by simpa using h1)
  · right; unfold inR at h1; simp at h1; exact h1
def netOk (M : List Int) (R : List (List Int)) : Bool := formF M R && (inA M.length (aR R) && clA M.length (aR R))
theorem form64 {M : List Int} {R : List (List Int)} (h : formF M R = true) : M.length ≤ 64 := by
  unfold formF at h
  rw [Bool.and_eq_true] at h
  simpa using h.1
theorem check_gen (M : List Int) (R : List (List Int)) {n : Nat} (hn : 500 ≤ n) : pureCall (rc pg n) 21 [nrD M R] = some (.ret (D.int (if netOk M R = true then 0 else 22))) := by
  obtain ⟨m, rfl, e⟩ := body (pg := pg) (f := 21) (args := [nrD M R]) (show 0 < n by omega) rfl rfl
  rw [e]
  have hc1 := ints_canonL M
  have hc3 := rw_canon R
  have f1 := fun h => call_of (h := h) (pg := pg) (f := 68) rfl (by simp [nrD, intsD, rwD, hc1, hc3]) (form_gen M R (show 400 ≤ m by omega))
  cases h1 : formF M R with
  | false =>
    have hk : netOk M R = false := by unfold netOk; rw [h1]; rfl
    rw [h1] at f1
    rw [hk]
    simp only [nrD, intsD, rwD] at f1
    simp [k21, Env.v_ini, nrD, intsD, rwD, D.cells, D.one, f1]
  | true =>
    have hl := form64 h1
    have hc2 := rows_canonL M.length (aR R)
    rw [h1, form_nD h1] at f1
    rw [form_nD h1]
    have f2 := fun h => call_of (h := h) (pg := pg) (f := 63) rfl (by simp [nD, intsD, rowsD, hc1, hc2]) (inA_gen hl (aR R) (show 400 ≤ m by omega))
    simp only [nD, intsD, rowsD] at f1 f2
    cases h2 : inA M.length (aR R) with
    | false =>
      have hk : netOk M R = false := by unfold netOk; rw [h1, h2]; rfl
      rw [h2] at f2
      rw [hk]
      simp [k21, Env.v_ini, nD, intsD, rowsD, D.cells, D.one, f1, f2]
    | true =>
      have f3 := fun h => call_of (h := h) (pg := pg) (f := 69) rfl (by simp [nD, intsD, rowsD, hc1, hc2]) (clsd_gen hl (inA_wd h2) (show 400 ≤ m by omega))
      rw [h2] at f2
      simp only [nD, intsD, rowsD] at f3
      cases h3 : clA M.length (aR R) with
      | false =>
        have hk : netOk M R = false := by unfold netOk; rw [h1, h2, h3]; rfl
        rw [h3] at f3
        rw [hk]
        simp [k21, Env.v_ini, nD, intsD, rowsD, D.cells, D.one, f1, f2, f3]
      | true =>
        have hk : netOk M R = true := by unfold netOk; rw [h1, h2, h3]; rfl
        rw [h3] at f3
        rw [hk]
        simp [k21, Env.v_ini, nD, intsD, rowsD, D.cells, D.one, f1, f2, f3]
end Go.Proofs.YtlkpikdfbodhoaaDoor
