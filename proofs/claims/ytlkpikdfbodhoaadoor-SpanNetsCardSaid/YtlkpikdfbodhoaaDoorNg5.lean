/- Whether a net is closed, by the document: marks that rise, rows. -/
import Derived.Test.YtlkpikdfbodhoaaDoorNg1
namespace Go.Proofs.YtlkpikdfbodhoaaDoor
open Go Go.Em Go.Em.Net
set_option maxRecDepth 100000
def rsB : List Int → Bool
  | a :: b :: l => decide (a < b) && rsB (b :: l)
  | _ => true
theorem rsB_step {M : List Int} {p : Nat} (h : p + 1 < M.length) : rsB (M.drop p) = (decide (M[p] < M[p + 1]) && rsB (M.drop (p + 1))) := by
  rw [List.drop_eq_getElem_cons (show p < M.length by omega), List.drop_eq_getElem_cons h, rsB]
theorem rsB_end {M : List Int} {p : Nat} (h : ¬ p + 1 < M.length) : rsB (M.drop p) = true := by
  by_cases h2 : p < M.length
  · rw [List.drop_eq_getElem_cons h2, List.drop_of_length_le (by omega)]; rfl
  · rw [List.drop_of_length_le (by omega)]; rfl
def RiI (M : List Int) (k : Nat) (s : St) : Prop := ∃ (x : Env 20) (h : Heap) (p q : Nat), s = ⟨x.l, h, []⟩ ∧ p + k = M.length ∧ q = p + 1 ∧ x.v 0 = intsD M ∧ x.v 3 = D.int q ∧ rsB M = rsB (M.drop p)
def RiQ (M : List Int) (x : Ex) (s : St) : Prop := (x = .exit 0 ∧ rsB M = true ∧ ∃ (x : Env 20) (h : Heap), s = ⟨x.l, h, []⟩) ∨ (x = .ret ∧ rsB M = false ∧ ∃ (x : Env 20) (h : Heap), s = ⟨x.l, h, []⟩ ∧ x.v 2 = D.bool false)
set_option maxHeartbeats 8000000 in
theorem ri_round {M : List Int} (hl : M.length ≤ 64) : ∀ n, 1 ≤ n → ∀ k s, RiI M k s → Res (k99l0.ev ⟨pg, 20, none⟩ (rc pg n) s) (Rnd (RiI M) (RiQ M) k) := by
  rintro n hn k s ⟨x, h, p, q, rfl, hpk, hpq, v0, v3, ho⟩
  simp only [intsD] at v0
  by_cases hq : q < M.length
  · rw [rsB_step (show p + 1 < M.length by omega)] at ho
    have w1 : IntKind.i64.wrap ((q : Int) + 1) = ((q + 1 : Nat) : Int) := by rw [wrap_i64 (by omega) (by omega)]; rfl
    have w2 : IntKind.i64.wrap ((q : Int) - 1) = (p : Int) := by rw [wrap_i64 (by omega) (by omega)]; omega
    have hp : p < M.length := by omega
    obtain ⟨u, hu⟩ : ∃ u, M[p] = u := ⟨_, rfl⟩
    obtain ⟨v, hv⟩ : ∃ v, M[q] = v := ⟨_, rfl⟩
    have hv' : M[p + 1] = v := by rw [← hv]; congr 1; omega
    rw [hu, hv'] at ho
    by_cases hlt : u < v
    · have hd : decide (u < v) = true := decide_eq_true hlt
      rw [hd, Bool.true_and] at ho
      have hge : ¬ (v ≤ u) := by omega
      simp [-Int.natCast_add, k99l0, v0, v3, hq, hp, w1, w2, D.cells, D.one, hge, hu, hv]
      exact ⟨k - 1, by omega, _, _, p + 1, q + 1, rfl, by omega, by omega, by simp [v0, intsD], by simp, ho⟩
    · have hd : decide (u < v) = false := decide_eq_false hlt
      rw [hd, Bool.false_and] at ho
      have hge : v ≤ u := by omega
      simp [k99l0, v0, v3, hq, hp, w2, D.cells, D.one, hge, hu, hv]
      exact .inr ⟨rfl, ho, _, _, rfl, by simp⟩
  · rw [rsB_end (show ¬ p + 1 < M.length by omega)] at ho
    simp [k99l0, v0, v3, hq]
    exact .inl ⟨rfl, ho, _, _, rfl⟩
theorem rsg_run {M : List Int} (hl : M.length ≤ 64) {n : Nat} (hn : 100 ≤ n) : pureCall (rc pg n) 99 [intsD M] = some (.ret (D.bool (rsB M))) := by
  obtain ⟨m, rfl, e⟩ := body (pg := pg) (f := 99) (args := [intsD M]) (show 0 < n by omega) rfl rfl
  rw [e]
  simp [k99, Env.v_ini, ev_loop]
  refine Res.endsAfter (lp_rule 1 (RiI M) _ (ri_round hl) M.length m _ (by omega) ⟨_, _, 0, 1, rfl, by omega, rfl, by simp [Env.v_ini], by simp, by simp⟩) ?_
  rintro x s (⟨rfl, ho, x, h, rfl⟩ | ⟨rfl, ho, x, h, rfl, v2⟩)
  · rw [ho]; simp
  · rw [ho]; simp [v2]
/-! A row -/
def inX (x : Int) : Bool := (x == 1000000000) || inR x (-40000000) 40000000
def RwI (M : List Int) (R : List (List Int)) (i : Nat) (r : List Int) (k : Nat) (s : St) : Prop := ∃ (x : Env 151) (h : Heap) (q : Nat), s = ⟨x.l, h, []⟩ ∧ q + k = r.length ∧ x.v 1 = .ptr 1 0 ∧ x.v 30 = intsD M ∧ x.v 31 = D.int M.length ∧ x.v 32 = D.int i ∧ x.v 67 = intsD r ∧ x.v 68 = D.int r.length ∧ x.v 69 = D.int q ∧ h.get 1 = some (.cells 40 [intsD M, rwD R]) ∧ r.all inX = (r.drop q).all inX
def RwQ (M : List Int) (R : List (List Int)) (i : Nat) (r : List Int) (x : Ex) (s : St) : Prop := (x = .exit 2 ∧ r.all inX = true ∧ ∃ (x : Env 151) (h : Heap), s = ⟨x.l, h, []⟩ ∧ x.v 1 = .ptr 1 0 ∧ x.v 30 = intsD M ∧ x.v 31 = D.int M.length ∧ x.v 32 = D.int i ∧ h.get 1 = some (.cells 40 [intsD M, rwD R])) ∨ (x = .ret ∧ r.all inX = false ∧ ∃ (x : Env 151) (h : Heap), s = ⟨x.l, h, []⟩ ∧ x.v 2 = D.bool false)
theorem wn67 (v a b : Int) {n : Nat} (hn : 1 ≤ n) : pureCall (rc pg n) 67 [D.int v, D.int a, D.int b] = some (.ret (D.bool (inR v a b))) := by
  obtain ⟨m, rfl, e⟩ := body (pg := pg) (f := 67) (args := [D.int v, D.int a, D.int b]) (show 0 < n by omega) rfl rfl
  rw [e]
  by_cases e1 : a ≤ v
  · by_cases e2 : v ≤ b <;> simp [k67, Env.v_ini, e1, e2, inR]
  · simp [k67, Env.v_ini, e1, inR]
set_option maxHeartbeats 8000000 in
theorem rw_round {M : List Int} {R : List (List Int)} {i : Nat} {r : List Int} (hr : r.length ≤ 64) : ∀ n, 1 ≤ n → ∀ k s, RwI M R i r k s → Res (k64l0.ev ⟨pg, 151, none⟩ (rc pg n) s) (Rnd (RwI M R i r) (RwQ M R i r) k) := by
  rintro n hn k s ⟨x, h, q, rfl, hqk, v1, v30, v31, v32, v67, v68, v69, hg, ho⟩
  by_cases hq : q < r.length
  · rw [List.drop_eq_getElem_cons hq, List.all_cons] at ho
    have w1 : IntKind.i64.wrap ((q : Int) + 1) = (q : Int) + 1 := wrap_i64 (by omega) (by omega)
    obtain ⟨v, hv⟩ : ∃ v, r[q] = v := ⟨_, rfl⟩
    rw [hv] at ho
    have hw := fun h => call_of (h := h) (pg := pg) (f := 67) rfl (by simp) (wn67 v (-40000000) 40000000 hn)
    simp only [intsD] at v67 v30
    by_cases hf : v = 1000000000
    · have hf' : (v != 1000000000) = false := by simp [hf]
      have hx : inX v = true := by unfold inX; simp [hf]
      rw [hx, Bool.true_and] at ho
      simp [-bne_iff_ne, -bne_eq_false_iff_eq, k64l0, v1, v30, v31, v32, v67, v68, v69, hq, hv, D.cells, D.one, hf', w1]
      exact ⟨k - 1, by omega, _, _, q + 1, rfl, by omega, by simp [v1], by simp [v30, intsD], by simp [v31], by simp [v32], by simp [v67, intsD], by simp [v68], by simp, by simp [hg], ho⟩
    · have hf' : (v != 1000000000) = true := by simp [hf]
      have hf2 : (v == 1000000000) = false := by simp [hf]
      cases hi : inR v (-40000000) 40000000 with
      | true =>
        have hx : inX v = true := by unfold inX; rw [hi]; simp
        rw [hx, Bool.true_and] at ho
        rw [hi] at hw
        simp [-bne_iff_ne, k64l0, v1, v30, v31, v32, v67, v68, v69, hq, hv, D.cells, D.one, hf', w1, hw]
        exact ⟨k - 1, by omega, _, _, q + 1, rfl, by omega, by simp [v1], by simp [v30, intsD], by simp [v31], by simp [v32], by simp [v67, intsD], by simp [v68], by simp, by simp [hg], ho⟩
      | false =>
        have hx : inX v = false := by unfold inX; rw [hi, hf2]; rfl
        rw [hx, Bool.false_and] at ho
        rw [hi] at hw
        simp [-bne_iff_ne, k64l0, v1, v30, v31, v32, v67, v68, v69, hq, hv, D.cells, D.one, hf', hw]
        exact .inr ⟨rfl, ho, _, _, rfl, by simp⟩
  · rw [List.drop_of_length_le (by omega), List.all_nil] at ho
    simp [k64l0, v68, v69, hq]
    exact .inl ⟨rfl, ho, _, _, rfl, by simp [v1], by simp [v30], by simp [v31], by simp [v32], by simp [hg]⟩
end Go.Proofs.YtlkpikdfbodhoaaDoor
/- Whether a net is closed, by the document: all rows. -/
namespace Go.Proofs.YtlkpikdfbodhoaaDoor
open Go Go.Em Go.Em.Net
set_option maxRecDepth 100000
def rwB (M : List Int) (R : List (List Int)) (i : Nat) : Bool := inR (M[i]?.getD 0) 0 2048 && (((R[i]?.getD []).length == M.length) && ((aR R i i == 0) && (R[i]?.getD []).all inX))
def rwA (M : List Int) (R : List (List Int)) : Bool := (List.range M.length).all fun i => rwB M R i
def RaI (M : List Int) (R : List (List Int)) (k : Nat) (s : St) : Prop := ∃ (x : Env 151) (h : Heap) (q : Nat), s = ⟨x.l, h, []⟩ ∧ q + k = M.length ∧ x.v 1 = .ptr 1 0 ∧ x.v 30 = intsD M ∧ x.v 31 = D.int M.length ∧ x.v 32 = D.int q ∧ h.get 1 = some (.cells 40 [intsD M, rwD R]) ∧ rwA M R = ((List.range M.length).drop q).all fun i => rwB M R i
def RaQ (M : List Int) (R : List (List Int)) (x : Ex) (s : St) : Prop := (x = .exit 0 ∧ rwA M R = true ∧ ∃ (x : Env 151) (h : Heap), s = ⟨x.l, h, []⟩ ∧ x.v 1 = .ptr 1 0 ∧ h.get 1 = some (.cells 40 [intsD M, rwD R])) ∨ (x = .ret ∧ rwA M R = false ∧ ∃ (x : Env 151) (h : Heap), s = ⟨x.l, h, []⟩ ∧ x.v 2 = D.bool false)
set_option maxHeartbeats 16000000 in
theorem ra_round {M : List Int} {R : List (List Int)} (hl : M.length ≤ 64) (hR : R.length = M.length) : ∀ n, 100 ≤ n → ∀ k s, RaI M R k s → Res (k64l1.ev ⟨pg, 151, none⟩ (rc pg n) s) (Rnd (RaI M R) (RaQ M R) k) := by
  rintro n hn k s ⟨x, h, q, rfl, hqk, v1, v30, v31, v32, hg, ho⟩
  by_cases hq : q < M.length
  · rw [range_drop hq, List.all_cons] at ho
    have hq2 : q < R.length := by omega
    have w1 : IntKind.i64.wrap ((q : Int) + 1) = (q : Int) + 1 := wrap_i64 (by omega) (by omega)
    obtain ⟨v, hv⟩ : ∃ v, M[q] = v := ⟨_, rfl⟩
    obtain ⟨r, hr⟩ : ∃ r, R[q] = r := ⟨_, rfl⟩
    have hB : rwB M R q = (inR v 0 2048 && ((r.length == M.length) && ((aR R q q == 0) && r.all inX))) := by
      unfold rwB; rw [List.getElem?_eq_getElem hq, List.getElem?_eq_getElem hq2, hv, hr]; rfl
    rw [hB] at ho
    have s67 : pg.sh 67 = false := rfl
    have hw := wn67 v 0 2048 (show 1 ≤ n by omega)
    simp only [intsD, rwD] at hg v30
    cases hi : inR v 0 2048 with
    | false =>
      rw [hi, Bool.false_and, Bool.false_and] at ho
      rw [hi] at hw
      simp [k64l1, v1, v30, v31, v32, hq, hq2, D.cells, D.one, hg, hv, dcore_f, s67, hw, intsD]
      exact .inr ⟨rfl, ho, _, _, rfl, by simp⟩
    | true =>
      rw [hi, Bool.true_and] at ho
      rw [hi] at hw
      by_cases he : r.length = M.length
      · have he' : (r.length == M.length) = true := by simp [he]
        rw [he', Bool.true_and] at ho
        have hq3 : q < r.length := by omega
        have ha : aR R q q = r[q] := by unfold aR; rw [List.getElem?_eq_getElem hq2, hr]; simp [hq3]
        obtain ⟨w, hw3⟩ : ∃ w, r[q] = w := ⟨_, rfl⟩
        rw [ha, hw3] at ho
        by_cases hz : w = 0
        · have hz' : (w == 0) = true := by simp [hz]
          rw [hz', Bool.true_and] at ho
          simp [k64l1, v1, v30, v31, v32, hq, hq2, hq3, D.cells, D.one, hg, hv, hr, dcore_f, s67, hw, he, hw3, hz, intsD, ev_loop]
          refine Res.after (Res.block (lp_rule 1 (RwI M R q r) _ (rw_round (by omega)) r.length n _ (by omega) ⟨_, _, 0, rfl, by omega, by simp [v1], by simp [v30, intsD], by simp [v31], by simp [v32], by simp [intsD], by simp [he], by simp, by simp [hg, intsD, rwD], rfl⟩) (Q := fun x s => (x = .normal ∧ r.all inX = true ∧ ∃ (x : Env 151) (h : Heap), s = ⟨x.l, h, []⟩ ∧ x.v 1 = .ptr 1 0 ∧ x.v 30 = intsD M ∧ x.v 31 = D.int M.length ∧ x.v 32 = D.int q ∧ h.get 1 = some (.cells 40 [intsD M, rwD R])) ∨ (x = .ret ∧ r.all inX = false ∧ ∃ (x : Env 151) (h : Heap), s = ⟨x.l, h, []⟩ ∧ x.v 2 = D.bool false)) ?_) ?_
          · rintro x s (⟨rfl, hb, hr⟩ | ⟨rfl, hb, hr⟩)
            · simpa [hb] using hr
            · simpa [hb] using hr
          · rintro x s (⟨rfl, hb, x, h, rfl, u1, u30, u31, u32, hg'⟩ | ⟨rfl, hb, x, h, rfl, u2⟩)
            · rw [hb, Bool.true_and] at ho
              simp [u32, w1]
              exact ⟨k - 1, by omega, _, _, q + 1, rfl, by omega, by simp [u1], by simp [u30], by simp [u31], by simp, by simp [hg'], ho⟩
            · rw [hb, Bool.false_and] at ho
              simp
              exact .inr ⟨rfl, ho, _, _, rfl, u2⟩
        · have hz' : (w == 0) = false := by simp [hz]
          have hz2 : (w != 0) = true := by simp [hz]
          rw [hz', Bool.false_and, Bool.false_and] at ho
          simp [-bne_iff_ne, k64l1, v1, v30, v31, v32, hq, hq2, hq3, D.cells, D.one, hg, hv, hr, dcore_f, s67, hw, he, hw3, hz2, intsD]
          exact .inr ⟨rfl, ho, _, _, rfl, by simp⟩
      · have he' : (r.length == M.length) = false := by simp [he]
        rw [he', Bool.false_and, Bool.false_and] at ho
        have he2 : ((r.length : Int) != (M.length : Int)) = true := by simp; omega
        simp [-bne_iff_ne, k64l1, v1, v30, v31, v32, hq, hq2, D.cells, D.one, hg, hv, hr, dcore_f, s67, hw, he2, intsD]
        exact .inr ⟨rfl, ho, _, _, rfl, by simp⟩
  · have hqM : q = M.length := by omega
    rw [hqM, List.drop_of_length_le (by simp), List.all_nil] at ho
    simp [k64l1, v31, v32, hq]
    exact .inl ⟨rfl, ho, _, _, rfl, by simp [v1], by simp [hg]⟩
end Go.Proofs.YtlkpikdfbodhoaaDoor
/- Whether a net is closed, by the document. -/
namespace Go.Proofs.YtlkpikdfbodhoaaDoor
open Go Go.Em Go.Em.Net
set_option maxRecDepth 100000
def triB (A : Nat → Nat → Int) (i j k : Nat) : Bool := (A i j == 1000000000) || ((A j k == 1000000000) || decide (A i k ≤ A i j + A j k))
def triJ (n : Nat) (A : Nat → Nat → Int) (i j : Nat) : Bool := (List.range n).all fun k => triB A i j k
def triI (n : Nat) (A : Nat → Nat → Int) (i : Nat) : Bool := (List.range n).all fun j => triJ n A i j
def triA (n : Nat) (A : Nat → Nat → Int) : Bool := (List.range n).all fun i => triI n A i
def TkI (M : List Int) (A : Nat → Nat → Int) (i j : Nat) (k : Nat) (s : St) : Prop := ∃ (x : Env 151) (h : Heap) (q : Nat), s = ⟨x.l, h, []⟩ ∧ q + k = M.length ∧ x.v 1 = .ptr 1 0 ∧ x.v 7 = D.int i ∧ x.v 8 = D.int j ∧ x.v 84 = D.int M.length ∧ x.v 85 = D.int i ∧ x.v 90 = D.int M.length ∧ x.v 91 = D.int j ∧ x.v 96 = D.int M.length ∧ x.v 97 = D.int q ∧ h.get 1 = some (.cells 40 [intsD M, rowsD M.length A]) ∧ triJ M.length A i j = ((List.range M.length).drop q).all fun k => triB A i j k
def TkQ (M : List Int) (A : Nat → Nat → Int) (i j : Nat) (x : Ex) (s : St) : Prop := (x = .exit 8 ∧ triJ M.length A i j = true ∧ ∃ (x : Env 151) (h : Heap), s = ⟨x.l, h, []⟩ ∧ x.v 1 = .ptr 1 0 ∧ x.v 7 = D.int i ∧ x.v 84 = D.int M.length ∧ x.v 85 = D.int i ∧ x.v 90 = D.int M.length ∧ x.v 91 = D.int j ∧ h.get 1 = some (.cells 40 [intsD M, rowsD M.length A])) ∨ (x = .ret ∧ triJ M.length A i j = false ∧ ∃ (x : Env 151) (h : Heap), s = ⟨x.l, h, []⟩ ∧ x.v 2 = D.bool false)
set_option maxHeartbeats 16000000 in
theorem tk_round {M : List Int} (hl : M.length ≤ 64) {A : Nat → Nat → Int} (o : Wd2 M.length A) {i j : Nat} (hi : i < M.length) (hj : j < M.length) : ∀ n, 1 ≤ n → ∀ k s, TkI M A i j k s → Res (k64l2.ev ⟨pg, 151, none⟩ (rc pg n) s) (Rnd (TkI M A i j) (TkQ M A i j) k) := by
  rintro n hn k s ⟨x, h, q, rfl, hqk, v1, v7, v8, v84, v85, v90, v91, v96, v97, hg, ho⟩
  by_cases hq : q < M.length
  · rw [range_drop hq, List.all_cons] at ho
    have w1 : IntKind.i64.wrap ((q : Int) + 1) = (q : Int) + 1 := wrap_i64 (by omega) (by omega)
    have y1 := fun a => yCs_len M.length (A a)
    have g1 := fun h' => yCs_at (y := A i) hj h'
    have g2 := fun h' => yCs_at (y := A i) hq h'
    have g3 := fun h' => yCs_at (y := A j) hq h'
    have i1 : i + 1 ≤ M.length := hi
    have i2 : j + 1 ≤ M.length := hj
    have i3 : q + 1 ≤ M.length := hq
    simp only [intsD, rowsD] at hg
    by_cases hf : A i j = 1000000000
    · have hb : triB A i j q = true := by unfold triB; simp [hf]
      have hf2 : (A i j != 1000000000) = false := by simp [hf]
      rw [hb, Bool.true_and] at ho
      simp [-bne_iff_ne, -bne_eq_false_iff_eq, k64l2, v1, v7, v8, v96, v97, hi, hj, hq, D.cells, D.one, hg, y1, g1, g2, g3, i1, i2, i3, hf2, w1]
      exact ⟨k - 1, by omega, _, _, q + 1, rfl, by omega, by simp [v1], by simp [v7], by simp [v8], by simp [v84], by simp [v85], by simp [v90], by simp [v91], by simp [v96], by simp, by simp [hg, intsD, rowsD], ho⟩
    · have hf2 : (A i j != 1000000000) = true := by simp [hf]
      have hf3 : (A i j == 1000000000) = false := by simp [hf]
      by_cases he : A j q = 1000000000
      · have hb : triB A i j q = true := by unfold triB; simp [he]
        have he2 : (A j q != 1000000000) = false := by simp [he]
        rw [hb, Bool.true_and] at ho
        simp [-bne_iff_ne, -bne_eq_false_iff_eq, k64l2, v1, v7, v8, v96, v97, hi, hj, hq, D.cells, D.one, hg, y1, g1, g2, g3, i1, i2, i3, hf2, he2, w1]
        exact ⟨k - 1, by omega, _, _, q + 1, rfl, by omega, by simp [v1], by simp [v7], by simp [v8], by simp [v84], by simp [v85], by simp [v90], by simp [v91], by simp [v96], by simp, by simp [hg, intsD, rowsD], ho⟩
      · have he2 : (A j q != 1000000000) = true := by simp [he]
        have he3 : (A j q == 1000000000) = false := by simp [he]
        have b1 := o i j hi hj
        have b2 := o j q hj hq
        have w2 : IntKind.i64.wrap (A i j + A j q) = A i j + A j q := wrap_i64 (by omega) (by omega)
        by_cases hgt : A i j + A j q < A i q
        · have hb : triB A i j q = false := by unfold triB; rw [hf3, he3, Bool.false_or, Bool.false_or]; exact decide_eq_false (by omega)
          rw [hb, Bool.false_and] at ho
          simp [-bne_iff_ne, k64l2, v1, v7, v8, v96, v97, hi, hj, hq, D.cells, D.one, hg, y1, g1, g2, g3, i1, i2, i3, hf2, he2, w2, hgt]
          exact .inr ⟨rfl, ho, _, _, rfl, by simp⟩
        · have hb : triB A i j q = true := by unfold triB; rw [hf3, he3, Bool.false_or, Bool.false_or]; exact decide_eq_true (by omega)
          rw [hb, Bool.true_and] at ho
          simp [-bne_iff_ne, k64l2, v1, v7, v8, v96, v97, hi, hj, hq, D.cells, D.one, hg, y1, g1, g2, g3, i1, i2, i3, hf2, he2, w1, w2, hgt]
          exact ⟨k - 1, by omega, _, _, q + 1, rfl, by omega, by simp [v1], by simp [v7], by simp [v8], by simp [v84], by simp [v85], by simp [v90], by simp [v91], by simp [v96], by simp, by simp [hg, intsD, rowsD], ho⟩
  · have hqM : q = M.length := by omega
    rw [hqM, List.drop_of_length_le (by simp), List.all_nil] at ho
    simp [k64l2, v96, v97, hq]
    exact .inl ⟨rfl, ho, _, _, rfl, by simp [v1], by simp [v7], by simp [v84], by simp [v85], by simp [v90], by simp [v91], by simp [hg]⟩
def TjI (M : List Int) (A : Nat → Nat → Int) (i : Nat) (k : Nat) (s : St) : Prop := ∃ (x : Env 151) (h : Heap) (q : Nat), s = ⟨x.l, h, []⟩ ∧ q + k = M.length ∧ x.v 1 = .ptr 1 0 ∧ x.v 7 = D.int i ∧ x.v 84 = D.int M.length ∧ x.v 85 = D.int i ∧ x.v 90 = D.int M.length ∧ x.v 91 = D.int q ∧ h.get 1 = some (.cells 40 [intsD M, rowsD M.length A]) ∧ triI M.length A i = ((List.range M.length).drop q).all fun j => triJ M.length A i j
def TjQ (M : List Int) (A : Nat → Nat → Int) (i : Nat) (x : Ex) (s : St) : Prop := (x = .exit 6 ∧ triI M.length A i = true ∧ ∃ (x : Env 151) (h : Heap), s = ⟨x.l, h, []⟩ ∧ x.v 1 = .ptr 1 0 ∧ x.v 84 = D.int M.length ∧ x.v 85 = D.int i ∧ h.get 1 = some (.cells 40 [intsD M, rowsD M.length A])) ∨ (x = .ret ∧ triI M.length A i = false ∧ ∃ (x : Env 151) (h : Heap), s = ⟨x.l, h, []⟩ ∧ x.v 2 = D.bool false)
set_option maxHeartbeats 16000000 in
theorem tj_round {M : List Int} (hl : M.length ≤ 64) {A : Nat → Nat → Int} (o : Wd2 M.length A) {i : Nat} (hi : i < M.length) : ∀ n, 100 ≤ n → ∀ k s, TjI M A i k s → Res (k64l3.ev ⟨pg, 151, none⟩ (rc pg n) s) (Rnd (TjI M A i) (TjQ M A i) k) := by
  rintro n hn k s ⟨x, h, q, rfl, hqk, v1, v7, v84, v85, v90, v91, hg, ho⟩
  by_cases hq : q < M.length
  · rw [range_drop hq, List.all_cons] at ho
    have w1 : IntKind.i64.wrap ((q : Int) + 1) = (q : Int) + 1 := wrap_i64 (by omega) (by omega)
    simp only [intsD, rowsD] at hg
    simp [k64l3, v1, v90, v91, hq, D.cells, D.one, hg, ev_loop]
    refine Res.after (Res.block (lp_rule 1 (TkI M A i q) _ (tk_round hl o hi hq) M.length n _ (by omega) ⟨_, _, 0, rfl, by omega, by simp [v1], by simp [v7], by simp, by simp [v84], by simp [v85], by simp [v90], by simp [v91], by simp, by simp, by simp [hg, intsD, rowsD], rfl⟩) (Q := fun x s => (x = .normal ∧ triJ M.length A i q = true ∧ ∃ (x : Env 151) (h : Heap), s = ⟨x.l, h, []⟩ ∧ x.v 1 = .ptr 1 0 ∧ x.v 7 = D.int i ∧ x.v 84 = D.int M.length ∧ x.v 85 = D.int i ∧ x.v 90 = D.int M.length ∧ x.v 91 = D.int q ∧ h.get 1 = some (.cells 40 [intsD M, rowsD M.length A])) ∨ (x = .ret ∧ triJ M.length A i q = false ∧ ∃ (x : Env 151) (h : Heap), s = ⟨x.l, h, []⟩ ∧ x.v 2 = D.bool false)) ?_) ?_
    · rintro x s (⟨rfl, hb, hr⟩ | ⟨rfl, hb, hr⟩)
      · simpa [hb] using hr
      · simpa [hb] using hr
    · rintro x s (⟨rfl, hb, x, h, rfl, u1, u7, u84, u85, u90, u91, hg'⟩ | ⟨rfl, hb, x, h, rfl, u2⟩)
      · rw [hb, Bool.true_and] at ho
        simp [u91, w1]
        exact ⟨k - 1, by omega, _, _, q + 1, rfl, by omega, by simp [u1], by simp [u7], by simp [u84], by simp [u85], by simp [u90], by simp, by simp [hg'], ho⟩
      · rw [hb, Bool.false_and] at ho
        simp
        exact .inr ⟨rfl, ho, _, _, rfl, u2⟩
  · have hqM : q = M.length := by omega
    rw [hqM, List.drop_of_length_le (by simp), List.all_nil] at ho
    simp [k64l3, v90, v91, hq]
    exact .inl ⟨rfl, ho, _, _, rfl, by simp [v1], by simp [v84], by simp [v85], by simp [hg]⟩
def TiI (M : List Int) (A : Nat → Nat → Int) (k : Nat) (s : St) : Prop := ∃ (x : Env 151) (h : Heap) (q : Nat), s = ⟨x.l, h, []⟩ ∧ q + k = M.length ∧ x.v 1 = .ptr 1 0 ∧ x.v 84 = D.int M.length ∧ x.v 85 = D.int q ∧ h.get 1 = some (.cells 40 [intsD M, rowsD M.length A]) ∧ triA M.length A = ((List.range M.length).drop q).all fun i => triI M.length A i
def TiQ (M : List Int) (A : Nat → Nat → Int) (x : Ex) (s : St) : Prop := (x = .exit 4 ∧ triA M.length A = true ∧ ∃ (x : Env 151) (h : Heap), s = ⟨x.l, h, []⟩) ∨ (x = .ret ∧ triA M.length A = false ∧ ∃ (x : Env 151) (h : Heap), s = ⟨x.l, h, []⟩ ∧ x.v 2 = D.bool false)
set_option maxHeartbeats 16000000 in
theorem ti_round {M : List Int} (hl : M.length ≤ 64) {A : Nat → Nat → Int} (o : Wd2 M.length A) : ∀ n, 200 ≤ n → ∀ k s, TiI M A k s → Res (k64l4.ev ⟨pg, 151, none⟩ (rc pg n) s) (Rnd (TiI M A) (TiQ M A) k) := by
  rintro n hn k s ⟨x, h, q, rfl, hqk, v1, v84, v85, hg, ho⟩
  by_cases hq : q < M.length
  · rw [range_drop hq, List.all_cons] at ho
    have w1 : IntKind.i64.wrap ((q : Int) + 1) = (q : Int) + 1 := wrap_i64 (by omega) (by omega)
    simp only [intsD, rowsD] at hg
    simp [k64l4, v1, v84, v85, hq, D.cells, D.one, hg, ev_loop]
    refine Res.after (Res.block (lp_rule 100 (TjI M A q) _ (tj_round hl o hq) M.length n _ (by omega) ⟨_, _, 0, rfl, by omega, by simp [v1], by simp, by simp [v84], by simp [v85], by simp, by simp, by simp [hg, intsD, rowsD], rfl⟩) (Q := fun x s => (x = .normal ∧ triI M.length A q = true ∧ ∃ (x : Env 151) (h : Heap), s = ⟨x.l, h, []⟩ ∧ x.v 1 = .ptr 1 0 ∧ x.v 84 = D.int M.length ∧ x.v 85 = D.int q ∧ h.get 1 = some (.cells 40 [intsD M, rowsD M.length A])) ∨ (x = .ret ∧ triI M.length A q = false ∧ ∃ (x : Env 151) (h : Heap), s = ⟨x.l, h, []⟩ ∧ x.v 2 = D.bool false)) ?_) ?_
    · rintro x s (⟨rfl, hb, hr⟩ | ⟨rfl, hb, hr⟩)
      · simpa [hb] using hr
      · simpa [hb] using hr
    · rintro x s (⟨rfl, hb, x, h, rfl, u1, u84, u85, hg'⟩ | ⟨rfl, hb, x, h, rfl, u2⟩)
      · rw [hb, Bool.true_and] at ho
        simp [u85, w1]
        exact ⟨k - 1, by omega, _, _, q + 1, rfl, by omega, by simp [u1], by simp [u84], by simp, by simp [hg'], ho⟩
      · rw [hb, Bool.false_and] at ho
        simp
        exact .inr ⟨rfl, ho, _, _, rfl, u2⟩
  · have hqM : q = M.length := by omega
    rw [hqM, List.drop_of_length_le (by simp), List.all_nil] at ho
    simp [k64l4, v84, v85, hq]
    exact .inl ⟨rfl, ho, _, _, rfl⟩
end Go.Proofs.YtlkpikdfbodhoaaDoor
/- CheckNet, by the document, and that both agree. -/
namespace Go.Proofs.YtlkpikdfbodhoaaDoor
open Go Go.Em Go.Em.Net
set_option maxRecDepth 100000
def rcB (M : List Int) (R : List (List Int)) : Bool := decide (M.length ≤ 64) && (rsB M && ((R.length == M.length) && (rwA M R && triA M.length (aR R))))
theorem rwA_at {M : List Int} {R : List (List Int)} (h : rwA M R = true) {i : Nat} (hi : i < M.length) : rwB M R i = true := List.all_eq_true.1 h i (by simpa using hi)
theorem rwB_iff {M : List Int} {R : List (List Int)} {i : Nat} : rwB M R i = true ↔ (0 ≤ M[i]?.getD 0 ∧ M[i]?.getD 0 ≤ 2048) ∧ (R[i]?.getD []).length = M.length ∧ aR R i i = 0 ∧ (R[i]?.getD []).all inX = true := by
  unfold rwB inR
  simp [and_assoc]
theorem rwA_len {M : List Int} {R : List (List Int)} (hR : R.length = M.length) (h : rwA M R = true) : ∀ r ∈ R, r.length = M.length := by
  intro r hr
  obtain ⟨i, hi, rfl⟩ := List.getElem_of_mem hr
  have := (rwB_iff.1 (rwA_at h (show i < M.length by omega))).2.1
  rwa [List.getElem?_eq_getElem hi] at this
theorem row_inX {n : Nat} {R : List (List Int)} {i : Nat} (h : (R[i]?.getD []).length = n) : (R[i]?.getD []).all inX = (List.range n).all fun j => inX (aR R i j) := by
  unfold aR
  obtain ⟨r, hr⟩ : ∃ r, R[i]?.getD [] = r := ⟨_, rfl⟩
  rw [hr] at h ⊢
  rw [Bool.eq_iff_iff, List.all_eq_true, List.all_eq_true]
  constructor
  · intro a j hj
    have hj : j < r.length := by simpa [h] using hj
    rw [List.getElem?_eq_getElem hj]
    exact a _ (List.getElem_mem hj)
  · intro a x hx
    obtain ⟨j, hj, rfl⟩ := List.getElem_of_mem hx
    have := a j (by simpa [← h] using hj)
    rwa [List.getElem?_eq_getElem hj] at this
theorem rwA_inA {M : List Int} {R : List (List Int)} (h : rwA M R = true) : inA M.length (aR R) = true := by
  unfold inA
  rw [List.all_eq_true]
  intro i hi
  have h1 := rwB_iff.1 (rwA_at h (show i < M.length by simpa using hi))
  have h2 := h1.2.2.2
  rw [row_inX h1.2.1] at h2
  exact h2
theorem rsB_lt : ∀ {l : List Int} {a : Int}, rsB (a :: l) = true → ∀ x ∈ l, a < x
  | [], _, _, _, hx => by cases hx
  | b :: l, a, h, x, hx => by
    rw [rsB, Bool.and_eq_true] at h
    have h1 : a < b := by simpa using h.1
    rcases List.mem_cons.1 hx with rfl | hx
    · exact h1
    · have := rsB_lt h.2 x hx
      omega
theorem frm_iff {n : Nat} : ∀ {M : List Int} {R : List (List Int)} {la : Int}, frmF n la M R = true ↔ R.length = M.length ∧ rsB (la :: M) = true ∧ (∀ v ∈ M, v ≤ 2048) ∧ ∀ r ∈ R, r.length = n
  | [], [], _ => by simp [frmF, rsB]
  | [], _ :: _, _ => by simp [frmF]
  | _ :: _, [], _ => by simp [frmF]
  | v :: M, r :: R, la => by
    have ih := @frm_iff n M R v
    rw [frmF, Bool.and_eq_true, ih, rsB, Bool.and_eq_true, Bool.and_eq_true]
    unfold inR
    simp only [Bool.and_eq_true, decide_eq_true_eq, beq_iff_eq, List.length_cons, List.forall_mem_cons, Nat.add_right_cancel_iff]
    constructor
    · rintro ⟨⟨⟨a, b⟩, c⟩, d, e, f, g⟩
      exact ⟨d, ⟨by omega, e⟩, ⟨b, f⟩, c, g⟩
    · rintro ⟨d, ⟨a, e⟩, ⟨b, f⟩, c, g⟩
      exact ⟨⟨⟨by omega, b⟩, c⟩, d, e, f, g⟩
theorem rsB_neg {M : List Int} : rsB ((-1) :: M) = true ↔ rsB M = true ∧ ∀ v ∈ M, 0 ≤ v := by
  cases M with
  | nil => simp [rsB]
  | cons v M =>
    rw [rsB, Bool.and_eq_true]
    simp only [decide_eq_true_eq, List.forall_mem_cons]
    constructor
    · rintro ⟨a, b⟩
      exact ⟨b, by omega, fun x hx => by have := rsB_lt b x hx; omega⟩
    · rintro ⟨a, b, c⟩
      exact ⟨by omega, a⟩
theorem ng_tri {n : Nat} {A : Nat → Nat → Int} {i j : Nat} : ngB n A i j = triJ n A i j := by
  unfold ngB triJ overA
  cases h : A i j == 1000000000 with
  | true =>
    rw [Bool.true_or]
    symm
    rw [List.all_eq_true]
    intro k _
    unfold triB; rw [h]; rfl
  | false =>
    rw [Bool.false_or]
    congr 1
    funext k
    unfold triB overB; rw [h]; rfl
theorem cl_tri {n : Nat} {A : Nat → Nat → Int} : clA n A = true ↔ (∀ i, i < n → A i i = 0) ∧ triA n A = true := by
  unfold clA triA triI
  simp only [List.all_eq_true, List.mem_range, Bool.and_eq_true, beq_iff_eq, ng_tri]
  constructor
  · intro h; exact ⟨fun i hi => (h i hi).1, fun i hi => (h i hi).2⟩
  · rintro ⟨h1, h2⟩ i hi; exact ⟨h1 i hi, h2 i hi⟩
theorem mem_at {M : List Int} {P : Int → Prop} : (∀ v ∈ M, P v) ↔ ∀ i, i < M.length → P (M[i]?.getD 0) := by
  constructor
  · intro h i hi
    rw [List.getElem?_eq_getElem hi]
    exact h _ (List.getElem_mem hi)
  · intro h v hv
    obtain ⟨i, hi, rfl⟩ := List.getElem_of_mem hv
    have := h i hi
    rwa [List.getElem?_eq_getElem hi] at this
theorem net_both (M : List Int) (R : List (List Int)) : netOk M R = rcB M R := by
  rw [Bool.eq_iff_iff]
  unfold netOk rcB formF
  simp only [Bool.and_eq_true, beq_iff_eq, cl_tri, frm_iff, rsB_neg]
  constructor
  · rintro ⟨⟨h1, h2, ⟨h3, h4⟩, h5, h6⟩, h7, h8, h9⟩
    refine ⟨h1, h3, h2, ?_, h9⟩
    unfold rwA
    rw [List.all_eq_true]
    intro i hi
    have hi : i < M.length := by simpa using hi
    have hi2 : i < R.length := by omega
    have hr : (R[i]?.getD []).length = M.length := by rw [List.getElem?_eq_getElem hi2]; exact h6 _ (List.getElem_mem hi2)
    refine rwB_iff.2 ⟨⟨mem_at.1 h4 i hi, mem_at.1 h5 i hi⟩, hr, h8 i hi, ?_⟩
    rw [row_inX hr]
    exact List.all_eq_true.1 h7 i (by simpa using hi)
  · rintro ⟨h1, h3, h2, h4, h9⟩
    have hb := fun i hi => rwB_iff.1 (rwA_at h4 (i := i) hi)
    exact ⟨⟨h1, h2, ⟨h3, mem_at.2 fun i hi => (hb i hi).1.1⟩, mem_at.2 fun i hi => (hb i hi).1.2, rwA_len h2 h4⟩, rwA_inA h4, fun i hi => (hb i hi).2.2.1, h9⟩
set_option maxHeartbeats 16000000 in
theorem closed_run (M : List Int) (R : List (List Int)) {n : Nat} (hn : 400 ≤ n) : pureCall (rc pg n) 64 [nrD M R] = some (.ret (D.bool (rcB M R))) := by
  obtain ⟨m, rfl, e⟩ := body (pg := pg) (f := 64) (args := [nrD M R]) (show 0 < n by omega) rfl rfl
  rw [e]
  have hc1 := ints_canonL M
  by_cases hl : M.length ≤ 64
  · have hl' : ¬ (64 : Int) < M.length := by omega
    have hd : decide (M.length ≤ 64) = true := decide_eq_true hl
    have f1 := fun h => call_of (h := h) (pg := pg) (f := 99) rfl (by simp [intsD, hc1]) (rsg_run hl (show 100 ≤ m by omega))
    simp only [intsD] at f1
    cases h1 : rsB M with
    | false =>
      have hk : rcB M R = false := by unfold rcB; rw [hd, h1]; rfl
      rw [h1] at f1
      rw [hk]
      simp [k64, Env.v_ini, nrD, intsD, rwD, D.cells, D.one, hl', f1]
    | true =>
      rw [h1] at f1
      by_cases hR : R.length = M.length
      · have hR' : (R.length == M.length) = true := by simp [hR]
        have hk : rcB M R = (rwA M R && triA M.length (aR R)) := by unfold rcB; rw [hd, h1, hR']; rfl
        rw [hk]
        simp [k64, Env.v_ini, nrD, intsD, rwD, D.cells, D.one, hl', f1, hR, ev_loop]
        refine Res.endsAfter (lp_rule 100 (RaI M R) _ (ra_round hl hR) M.length m _ (by omega) ⟨_, _, 0, rfl, by omega, by simp, by simp [intsD], by simp, by simp, by simp [intsD, rwD], rfl⟩) ?_
        rintro x s (⟨rfl, ho, x, h, rfl, u1, hg⟩ | ⟨rfl, ho, x, h, rfl, v2⟩)
        · rw [ho, Bool.true_and]
          rw [rw_rows hR (rwA_len hR ho)] at hg
          simp only [intsD, rowsD] at hg
          simp [u1, hg, ev_loop]
          refine Res.endsAfter (lp_rule 200 (TiI M (aR R)) _ (ti_round hl (inA_wd (rwA_inA ho))) M.length m _ (by omega) ⟨_, _, 0, rfl, by omega, by simp [u1], by simp, by simp, by simp [hg, intsD, rowsD], rfl⟩) ?_
          rintro x s (⟨rfl, ho, x, h, rfl⟩ | ⟨rfl, ho, x, h, rfl, v2⟩)
          · rw [ho]; simp
          · rw [ho]; simp [v2]
        · rw [ho, Bool.false_and]; simp [v2]
      · have hR' : (R.length == M.length) = false := by simp [hR]
        have hk : rcB M R = false := by unfold rcB; rw [hd, h1, hR']; rfl
        have hR2 : ((R.length : Int) != (M.length : Int)) = true := by simp; omega
        rw [hk]
        simp [-bne_iff_ne, k64, Env.v_ini, nrD, intsD, rwD, D.cells, D.one, hl', f1, hR2]
  · have hl' : (64 : Int) < M.length := by omega
    have hk : rcB M R = false := by unfold rcB; rw [decide_eq_false hl]; rfl
    rw [hk]
    simp [k64, Env.v_ini, nrD, intsD, rwD, D.cells, D.one, hl']
theorem rcheck_gen (M : List Int) (R : List (List Int)) {n : Nat} (hn : 500 ≤ n) : pureCall (rc pg n) 22 [nrD M R] = some (.ret (D.int (if netOk M R = true then 0 else 22))) := by
  obtain ⟨m, rfl, e⟩ := body (pg := pg) (f := 22) (args := [nrD M R]) (show 0 < n by omega) rfl rfl
  rw [e]
  have hc1 := ints_canonL M
  have hc3 := rw_canon R
  have f1 := fun h => call_of (h := h) (pg := pg) (f := 64) rfl (by simp [nrD, intsD, rwD, hc1, hc3]) (closed_run M R (show 400 ≤ m by omega))
  rw [← net_both] at f1
  simp only [nrD, intsD, rwD] at f1
  cases h1 : netOk M R <;> (rw [h1] at f1; simp [k22, Env.v_ini, nrD, intsD, rwD, D.cells, D.one, f1])
end Go.Proofs.YtlkpikdfbodhoaaDoor
