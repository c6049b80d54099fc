/- The place of a mark among marks that rise; lists of years. -/
import Derived.Test.YtjgafgkkpofgbaaDoorTz
import Derived.Test.YtjgafgkkpofgbaaDoorBnd
import Derived.Test.YtjgafgkkpofgbaaDoorClaim
namespace Go.Proofs.YtjgafgkkpofgbaaDoor
open Go Go.Em
set_option maxRecDepth 100000
theorem nan_run (a : Int) {n : Nat} (hn : 1 ≤ n) : pureCall (rc pg n) 122 [D.int a] = some (.ret (D.bool false)) := by
  obtain ⟨m, rfl, e⟩ := body (pg := pg) (f := 122) (args := [D.int a]) hn rfl rfl
  rw [e]
  simp [k122, Env.v_ini]
theorem less_run (a b : Int) {n : Nat} (hn : 2 ≤ n) : pureCall (rc pg n) 116 [D.int a, D.int b] = some (.ret (D.bool (decide (a < b)))) := by
  obtain ⟨m, rfl, e⟩ := body (pg := pg) (f := 116) (args := [D.int a, D.int b]) (show 0 < n by omega) rfl rfl
  rw [e]
  have h1 := fun a h => call_of (h := h) (pg := pg) (f := 122) (args := [D.int a]) rfl (by simp) (@nan_run a m (by omega))
  simp [k116, Env.v_ini, h1]
theorem bin_shr1 (a : Nat) : bin .shr (.int .u64 (a : Int)) (.int .u64 1) = some (.int .u64 ((a / 2 : Nat) : Int)) := by
  have h : bin .shr (.int .u64 (a : Int)) (.int .u64 1) = some (.int .u64 ((a : Int).fdiv (2 ^ 1))) := rfl
  rw [h]
  congr 2
  rw [Int.fdiv_eq_ediv_of_nonneg _ (by omega)]
  simp
def BI (M : List Int) (v : Int) (p : Nat) (k : Nat) (s : St) : Prop := ∃ (x : Env 54) (h : Heap) (i j : Nat), s = ⟨x.l, h, []⟩ ∧ j - i ≤ k ∧ i ≤ p ∧ p ≤ j ∧ j ≤ M.length ∧ x.v 0 = intsD M ∧ x.v 1 = D.int v ∧ x.v 6 = D.int M.length ∧ x.v 7 = D.int i ∧ x.v 8 = D.int j
def BQ (M : List Int) (v : Int) (p : Nat) (x : Ex) (s : St) : Prop := x = .exit 0 ∧ ∃ (x : Env 54) (h : Heap), s = ⟨x.l, h, []⟩ ∧ x.v 0 = intsD M ∧ x.v 1 = D.int v ∧ x.v 6 = D.int M.length ∧ x.v 7 = D.int p
set_option maxHeartbeats 1000000 in
theorem search_round (M : List Int) (hM : Rise M) (hl : M.length ≤ 4000) (p : Nat) (hp : p < M.length) : ∀ n, 2 ≤ n → ∀ k s, BI M M[p] p k s → Res (k95l0.ev ⟨pg, 54, none⟩ (rc pg n) s) (Rnd (BI M M[p] p) (BQ M M[p] p) k) := by
  rintro n hn k s ⟨x, h, i, j, rfl, hk, hi, hj, hjl, v0, v1, v6, v7, v8⟩
  simp only [intsD] at v0
  by_cases hij : i < j
  · obtain ⟨q, hq⟩ : ∃ q, q = (i + j) / 2 := ⟨_, rfl⟩
    have hqM : q < M.length := by omega
    obtain ⟨w, hw⟩ : ∃ w, M[q] = w := ⟨_, rfl⟩
    obtain ⟨v, hv⟩ : ∃ v, M[p] = v := ⟨_, rfl⟩
    have hcmp : w < v ↔ q < p := by
      rw [← hw, ← hv]
      constructor
      · intro hlt
        apply Decidable.byContradiction; intro hn'
        rcases Nat.lt_or_eq_of_le (show p ≤ q by omega) with e | e
        · have := List.pairwise_iff_getElem.1 hM p q hp hqM e; omega
        · subst e; omega
      · intro hlt
        exact List.pairwise_iff_getElem.1 hM q p hqM hp hlt
    have w1 : IntKind.i64.wrap ((i : Int) + j) = ((i + j : Nat) : Int) := by rw [wrap_i64 (by omega) (by omega)]; omega
    have w2 : IntKind.u64.wrap ((i + j : Nat) : Int) = ((i + j : Nat) : Int) := wrap_u64 (by omega) (by omega)
    have w3 : IntKind.i64.wrap (((i + j) / 2 : Nat) : Int) = (q : Int) := by rw [wrap_i64 (by omega) (by omega)]; omega
    have w4 : IntKind.i64.wrap ((q : Int) + 1) = (q : Int) + 1 := wrap_i64 (by omega) (by omega)
    have sh := bin_shr1 (i + j)
    have hls := fun h => call_of (h := h) (pg := pg) (f := 116) (args := [D.int w, D.int v]) rfl (by simp) (@less_run w v n hn)
    obtain ⟨u, hu⟩ : ∃ u, u = i + j := ⟨_, rfl⟩
    have hq2 : (i + j) / 2 = q := hq.symm
    rw [hq2] at w3 sh
    rw [← hu] at w1 w2 sh
    rw [hv] at v1 ⊢
    by_cases hlt : w < v
    · simp [k95l0, v0, v1, v7, v8, hij, w1, w2, w3, sh, hqM, hw, hls, hlt, w4, D.cells]
      exact ⟨k - 1, by omega, _, _, q + 1, j, rfl, by omega, by have := hcmp.1 hlt; omega, hj, hjl, by simp [v0, intsD], by simp [v1], by simp [v6], by simp, by simp [v8]⟩
    · simp [k95l0, v0, v1, v7, v8, hij, w1, w2, w3, sh, hqM, hw, hls, hlt, D.cells]
      exact ⟨k - 1, by omega, _, _, i, q, rfl, by omega, hi, by have : ¬ q < p := fun h => hlt (hcmp.2 h); omega, by omega, by simp [v0, intsD], by simp [v1], by simp [v6], by simp [v7], by simp⟩
  · have hip : i = p := by omega
    subst hip
    have hij' : ¬ i < j := hij
    simp [k95l0, v7, v8, hij']
    exact ⟨rfl, _, _, rfl, by simp [v0, intsD], by simp [v1], by simp [v6], by simp [v7]⟩
theorem search_run (M : List Int) (hM : Rise M) (hl : M.length ≤ 4000) (p : Nat) (hp : p < M.length) {n : Nat} (hn : M.length + 10 ≤ n) : pureCall (rc pg n) 95 [intsD M, D.int M[p]] = some (.ret (.tup [D.int p, D.bool true])) := by
  obtain ⟨m, rfl, e⟩ := body (pg := pg) (f := 95) (args := [intsD M, D.int M[p]]) (show 0 < n by omega) rfl rfl
  rw [e]
  simp [k95, Env.v_ini, intsD, ev_loop]
  refine Res.endsAfter (lp_rule 2 (BI M M[p] p) _ (search_round M hM hl p hp) M.length m _ (by omega) ⟨_, _, 0, M.length, rfl, by omega, by omega, by omega, by omega, by simp [Env.v_ini, intsD], by simp [Env.v_ini], by simp, by simp, by simp⟩) ?_
  rintro x s ⟨rfl, x, h, rfl, v0, v1, v6, v7⟩
  simp only [intsD] at v0
  simp [v0, v1, v6, v7, hp, D.cells]
theorem place_run (M : List Int) (hM : Rise M) (hl : M.length ≤ 4000) (p : Nat) (hp : p < M.length) {n : Nat} (hn : M.length + 11 ≤ n) : pureCall (rc pg n) 59 [intsD M, D.int M[p]] = some (.ret (D.int p)) := by
  obtain ⟨m, rfl, e⟩ := body (pg := pg) (f := 59) (args := [intsD M, D.int M[p]]) (show 0 < n by omega) rfl rfl
  rw [e]
  have h1 := fun h => call_of (h := h) (pg := pg) (f := 95) (args := [intsD M, D.int M[p]]) rfl (by simp [intsD, ints_canonL]) (@search_run M hM hl p hp m (by omega))
  simp only [intsD] at h1
  simp [k59, Env.v_ini, intsD, h1]
structure Dt where
  m : Int
  y : Int
def dtC (d : Dt) : List D := [D.int d.m, D.int d.y]
def dtD (d : Dt) : D := .agg (dtC d)
def dtsD (l : List Dt) : D := .sl false (l.map dtD)
theorem dt_canon (s : Dt) : (dtD s).canon = true := by simp [dtD, dtC]
theorem dts_canonL (l : List Dt) : D.canonL (l.map dtD) = true := canonL_map dtD dt_canon l
end Go.Proofs.YtjgafgkkpofgbaaDoor
/- Lists of years, by the document's own functions. -/
namespace Go.Proofs.YtjgafgkkpofgbaaDoor
open Go Go.Em
set_option maxRecDepth 100000
def msF (l : List Dt) : List Int := l.map (·.m)
/-- A year that may not be. -/
def yrB (d : Dt) : Bool := !(inR d.y (-1000000000) 1000000000) || ((d.m == 0) && (d.y != 0))
def yrsOk (l : List Dt) : Bool := l.all fun d => !yrB d
theorem yrs_snoc {l : List Dt} {i : Nat} (hi : i < l.length) (h : yrsOk (l.take i) = true) (hc : yrB l[i] = false) : yrsOk (l.take (i + 1)) = true := by
  unfold yrsOk at h ⊢
  rw [List.take_add_one, List.getElem?_eq_getElem hi, List.all_append, h]
  simp [hc]
theorem yrs_bad {l : List Dt} {i : Nat} (hi : i < l.length) (hc : yrB l[i] = true) : yrsOk l = false := by
  unfold yrsOk
  rw [List.all_eq_false]
  exact ⟨l[i], List.getElem_mem hi, by simp [hc]⟩
/-- The year of a mark; 0 if it has none. -/
def yOf : List Dt → Int → Int
  | [], _ => 0
  | d :: l, v => if (d.m == v) = true then d.y else yOf l v
end Go.Proofs.YtjgafgkkpofgbaaDoor
/- Whether years are a chronology of claims: by the program and by the document. -/
namespace Go.Proofs.YtjgafgkkpofgbaaDoor
open Go Go.Em
set_option maxRecDepth 100000
theorem yof_bound : ∀ (l : List Dt) (v : Int), yrsOk l = true → -1000000000 ≤ yOf l v ∧ yOf l v ≤ 1000000000
  | [], _, _ => by unfold yOf; omega
  | d :: l, v, h => by
    unfold yrsOk at h
    rw [List.all_cons, Bool.and_eq_true] at h
    unfold yOf
    split
    · have := h.1
      unfold yrB at this
      simp only [Bool.not_or, Bool.and_eq_true, Bool.not_not, inR_eq, decide_eq_true_eq] at this
      omega
    · exact yof_bound l v h.2
theorem yof_at : ∀ (l : List Dt) (p : Nat) (hp : p < l.length), Rise (msF l) → yOf l l[p].m = l[p].y
  | d :: l, 0, _, _ => by unfold yOf; simp
  | d :: l, p + 1, hp, h => by
    unfold msF Rise at h
    rw [List.map_cons, List.pairwise_cons] at h
    have hp' : p < l.length := by simpa using hp
    have h1 := h.1 l[p].m (List.mem_map.2 ⟨l[p], List.getElem_mem hp', rfl⟩)
    unfold yOf
    rw [if_neg (by simp; omega)]
    simpa using yof_at l p hp' h.2
/-- A claim that years do not keep. -/
def clB (d : List Dt) (c : Clm) : Bool := decide (yOf d c.b - yOf d c.a < c.lo) || decide (yOf d c.b - yOf d c.a > c.hi)
theorem clB_in (d : List Dt) (c : Clm) : inR (yOf d c.b - yOf d c.a) c.lo c.hi = !clB d c := by
  rw [inR_eq]; unfold clB
  by_cases h1 : yOf d c.b - yOf d c.a < c.lo <;> by_cases h2 : yOf d c.b - yOf d c.a > c.hi <;> simp [h1, h2] <;> omega
def clsOk (d : List Dt) (l : List Clm) : Bool := l.all fun c => !clB d c
theorem cls_snoc {d : List Dt} {l : List Clm} {i : Nat} (hi : i < l.length) (h : clsOk d (l.take i) = true) (hc : clB d l[i] = false) : clsOk d (l.take (i + 1)) = true := by
  unfold clsOk at h ⊢
  rw [List.take_add_one, List.getElem?_eq_getElem hi, List.all_append, h]
  simp [hc]
theorem cls_bad {d : List Dt} {l : List Clm} {i : Nat} (hi : i < l.length) (hc : clB d l[i] = true) : clsOk d l = false := by
  unfold clsOk
  rw [List.all_eq_false]
  exact ⟨l[i], List.getElem_mem hi, by simp [hc]⟩
def keepF (l : List Clm) (d : List Dt) : Int := if chkF l ≠ 0 then chkF l else if msF d ≠ marksF l then 3 else if yrsOk d = true ∧ clsOk d l = true then 0 else 23
end Go.Proofs.YtjgafgkkpofgbaaDoor
/- Whether years are a chronology of claims, by the program; the law. -/
namespace Go.Proofs.YtjgafgkkpofgbaaDoor
open Go Go.Em
set_option maxRecDepth 100000
/-- What stays in the frame. -/
def Kx (l : List Clm) (d : List Dt) (x : Env 91) : Prop := x.v 0 = clsD l ∧ x.v 1 = dtsD d ∧ x.v 6 = intsD (marksF l)
def A0 (l : List Clm) (d : List Dt) (k : Nat) (s : St) : Prop := ∃ (x : Env 91) (h : Heap) (i : Nat), s = ⟨x.l, h, []⟩ ∧ i + k = d.length ∧ x.v 25 = dtsD d ∧ x.v 26 = D.int d.length ∧ x.v 27 = D.int i ∧ Kx l d x ∧ msF (d.take i) = (marksF l).take i ∧ h.Fr
def Q0 (l : List Clm) (d : List Dt) (x : Ex) (s : St) : Prop := (x = .exit 0 ∧ A0 l d 0 s) ∨ (x = .ret ∧ msF d ≠ marksF l ∧ ∃ (x : Env 91) (h : Heap), s = ⟨x.l, h, []⟩ ∧ x.v 4 = D.int 3)
set_option maxHeartbeats 4000000 in
theorem k_round0 (l : List Clm) (d : List Dt) (hd : d.length = (marksF l).length) (hdl : d.length ≤ 64) : ∀ n, 0 ≤ n → ∀ k s, A0 l d k s → Res (k22l0.ev ⟨pg, 91, none⟩ (rc pg n) s) (Rnd (A0 l d) (Q0 l d) k) := by
  rintro n hn k s ⟨x, h, i, rfl, hik, v25, v26, v27, ⟨v0, v1, v6⟩, ht, hf⟩
  simp only [dtsD] at v25
  simp only [intsD] at v6
  by_cases hi : i < d.length
  · have hiM : i < (marksF l).length := by omega
    obtain ⟨c, hc⟩ : ∃ c, d[i] = c := ⟨_, rfl⟩
    obtain ⟨q, hq⟩ : ∃ q, (marksF l)[i] = q := ⟨_, rfl⟩
    have w1 : IntKind.i64.wrap ((i : Int) + 1) = (i : Int) + 1 := wrap_i64 (by omega) (by omega)
    have hfr : ∀ j, h.raw (h.next + j) = none := fun j => hf _ (by omega)
    cases he : (c.m != q) with
    | true =>
      have he' : c.m ≠ q := by simpa using he
      simp [-bne_iff_ne, k22l0, v25, v26, v27, v6, hi, hiM, hc, hq, dtD, dtC, D.cells, D.one, hfr, Nat.add_assoc, he]
      refine .inr ⟨rfl, fun e => he' ?_, _, _, rfl, by simp⟩
      have h1 : (msF d)[i]? = (marksF l)[i]? := by rw [e]
      rw [List.getElem?_eq_getElem hiM, hq] at h1
      unfold msF at h1
      rw [List.getElem?_map, List.getElem?_eq_getElem hi, hc] at h1
      simpa using h1
    | false =>
      have he' : c.m = q := by simpa using he
      simp [-bne_eq_false_iff_eq, k22l0, v25, v26, v27, v6, hi, hiM, hc, hq, dtD, dtC, D.cells, D.one, hfr, Nat.add_assoc, he, w1]
      refine ⟨k - 1, by omega, _, _, i + 1, rfl, by omega, by simp [v25, dtsD], by simp [v26], by simp, ⟨by simp [v0], by simp [v1], by simp [v6, intsD]⟩, ?_, ?_⟩
      · unfold msF at ht ⊢
        rw [List.take_add_one, List.take_add_one, List.map_append, ht, List.getElem?_eq_getElem hi, List.getElem?_eq_getElem hiM, hc, hq]
        simp [he']
      · repeat' first | exact hf | apply Heap.Fr.bump | apply Heap.Fr.set
        all_goals (simp <;> omega)
  · simp [k22l0, v26, v27, hi]
    exact .inl ⟨rfl, _, _, i, rfl, by omega, by simp [v25, dtsD], by simp [v26], by simp [v27], ⟨by simp [v0], by simp [v1], by simp [v6, intsD]⟩, ht, hf.bump _⟩
def A1 (l : List Clm) (d : List Dt) (k : Nat) (s : St) : Prop := ∃ (x : Env 91) (h : Heap) (i : Nat), s = ⟨x.l, h, []⟩ ∧ i + k = d.length ∧ x.v 40 = dtsD d ∧ x.v 41 = D.int d.length ∧ x.v 42 = D.int i ∧ Kx l d x ∧ yrsOk (d.take i) = true ∧ h.Fr
def Q1 (l : List Clm) (d : List Dt) (x : Ex) (s : St) : Prop := (x = .exit 2 ∧ A1 l d 0 s) ∨ (x = .ret ∧ yrsOk d = false ∧ ∃ (x : Env 91) (h : Heap), s = ⟨x.l, h, []⟩ ∧ x.v 4 = D.int 23)
set_option maxHeartbeats 4000000 in
theorem k_round1 (l : List Clm) (d : List Dt) (hdl : d.length ≤ 64) : ∀ n, 1 ≤ n → ∀ k s, A1 l d k s → Res (k22l1.ev ⟨pg, 91, none⟩ (rc pg n) s) (Rnd (A1 l d) (Q1 l d) k) := by
  rintro n hn k s ⟨x, h, i, rfl, hik, v40, v41, v42, ⟨v0, v1, v6⟩, hok, hf⟩
  simp only [dtsD] at v40
  by_cases hi : i < d.length
  · obtain ⟨c, hc⟩ : ∃ c, d[i] = c := ⟨_, rfl⟩
    have w1 : IntKind.i64.wrap ((i : Int) + 1) = (i : Int) + 1 := wrap_i64 (by omega) (by omega)
    have hfr : ∀ j, h.raw (h.next + j) = none := fun j => hf _ (by omega)
    have hw := fun h => @within_run n (by omega) c.y (-1000000000) 1000000000 h
    have good : yrB c = false → ∀ (s' : St), (∃ (x : Env 91) (h : Heap), s' = ⟨x.l, h, []⟩ ∧ x.v 40 = dtsD d ∧ x.v 41 = D.int d.length ∧ x.v 42 = D.int (i + 1 : Nat) ∧ Kx l d x ∧ h.Fr) → ∃ j, k = j + 1 ∧ A1 l d j s' := fun hb s' ⟨x, h, e, a, b, c', d', f'⟩ =>
      ⟨k - 1, by omega, x, h, i + 1, e, by omega, a, b, c', d', yrs_snoc hi hok (by rw [hc]; exact hb), f'⟩
    have badq : yrB c = true → ∀ (s' : St), (∃ (x : Env 91) (h : Heap), s' = ⟨x.l, h, []⟩ ∧ x.v 4 = D.int 23) → Q1 l d .ret s' := fun hb s' q => .inr ⟨rfl, yrs_bad hi (by rw [hc]; exact hb), q⟩
    cases h1 : inR c.y (-1000000000) 1000000000 with
    | false =>
      have hb : yrB c = true := by unfold yrB; rw [h1]; rfl
      simp [k22l1, v40, v41, v42, hi, hc, dtD, dtC, D.cells, D.one, hfr, Nat.add_assoc, hw, h1]
      exact badq hb _ ⟨_, _, rfl, by simp⟩
    | true =>
      cases h2 : (c.m == 0) with
      | false =>
        have hb : yrB c = false := by unfold yrB; rw [h1, h2]; rfl
        simp [-beq_iff_eq, -beq_eq_false_iff_ne, k22l1, v40, v41, v42, hi, hc, dtD, dtC, D.cells, D.one, hfr, Nat.add_assoc, hw, h1, h2, w1]
        refine good hb _ ⟨_, _, rfl, by simp [v40, dtsD], by simp [v41], by simp, ⟨by simp [v0], by simp [v1], by simp [v6]⟩, ?_⟩
        repeat' first | exact hf | apply Heap.Fr.bump | apply Heap.Fr.set
        all_goals (simp <;> omega)
      | true =>
        cases h3 : (c.y != 0) with
        | false =>
          have hb : yrB c = false := by unfold yrB; rw [h1, h2, h3]; rfl
          simp [-beq_iff_eq, -bne_eq_false_iff_eq, k22l1, v40, v41, v42, hi, hc, dtD, dtC, D.cells, D.one, hfr, Nat.add_assoc, hw, h1, h2, h3, w1]
          refine good hb _ ⟨_, _, rfl, by simp [v40, dtsD], by simp [v41], by simp, ⟨by simp [v0], by simp [v1], by simp [v6]⟩, ?_⟩
          repeat' first | exact hf | apply Heap.Fr.bump | apply Heap.Fr.set
          all_goals (simp <;> omega)
        | true =>
          have hb : yrB c = true := by unfold yrB; rw [h1, h2, h3]; rfl
          simp [-beq_iff_eq, -bne_iff_ne, k22l1, v40, v41, v42, hi, hc, dtD, dtC, D.cells, D.one, hfr, Nat.add_assoc, hw, h1, h2, h3]
          exact badq hb _ ⟨_, _, rfl, by simp⟩
  · simp [k22l1, v41, v42, hi]
    exact .inl ⟨rfl, _, _, i, rfl, by omega, by simp [v40, dtsD], by simp [v41], by simp [v42], ⟨by simp [v0], by simp [v1], by simp [v6]⟩, hok, hf.bump _⟩
def A2 (l : List Clm) (d : List Dt) (k : Nat) (s : St) : Prop := ∃ (x : Env 91) (h : Heap) (i : Nat), s = ⟨x.l, h, []⟩ ∧ i + k = l.length ∧ x.v 61 = clsD l ∧ x.v 62 = D.int l.length ∧ x.v 63 = D.int i ∧ Kx l d x ∧ clsOk d (l.take i) = true ∧ h.Fr
def Q2 (l : List Clm) (d : List Dt) (x : Ex) (s : St) : Prop := (x = .exit 4 ∧ A2 l d 0 s) ∨ (x = .ret ∧ clsOk d l = false ∧ ∃ (x : Env 91) (h : Heap), s = ⟨x.l, h, []⟩ ∧ x.v 4 = D.int 23)
theorem mark_at {l : List Clm} {d : List Dt} (hm : msF d = marksF l) {v : Int} (hv : v ∈ marksF l) : ∃ (p : Nat) (h1 : p < (marksF l).length) (h2 : p < d.length), (marksF l)[p] = v ∧ d[p].y = yOf d v := by
  obtain ⟨p, hp, e⟩ := List.getElem_of_mem hv
  have hdl : d.length = (marksF l).length := by rw [← hm]; simp [msF]
  have h2 : p < d.length := by omega
  have h3 : d[p].m = v := by
    have : (msF d)[p]? = (marksF l)[p]? := by rw [hm]
    rw [List.getElem?_eq_getElem hp, e] at this
    unfold msF at this
    rw [List.getElem?_map, List.getElem?_eq_getElem h2] at this
    simpa using this
  have h4 := yof_at d p h2 (by rw [hm]; exact marks_rise l)
  rw [h3] at h4
  exact ⟨p, hp, h2, e, h4.symm⟩
set_option maxHeartbeats 8000000 in
theorem k_round2 (l : List Clm) (d : List Dt) (hm : msF d = marksF l) (hml : (marksF l).length ≤ 64) (hy : yrsOk d = true) (hl : l.length ≤ 400) : ∀ n, 80 ≤ n → ∀ k s, A2 l d k s → Res (k22l2.ev ⟨pg, 91, none⟩ (rc pg n) s) (Rnd (A2 l d) (Q2 l d) k) := by
  rintro n hn k s ⟨x, h, i, rfl, hik, v61, v62, v63, ⟨v0, v1, v6⟩, hok, hf⟩
  simp only [clsD] at v61
  simp only [dtsD] at v1
  simp only [intsD] at v6
  by_cases hi : i < l.length
  · obtain ⟨c, hc⟩ : ∃ c, l[i] = c := ⟨_, rfl⟩
    have hcm : c ∈ l := by rw [← hc]; exact List.getElem_mem hi
    obtain ⟨pa, a1, a2, a3, a4⟩ := mark_at hm ((marks_mem l c.a).2 ⟨c, hcm, .inl rfl⟩)
    obtain ⟨pb, b1, b2, b3, b4⟩ := mark_at hm ((marks_mem l c.b).2 ⟨c, hcm, .inr rfl⟩)
    have w1 : IntKind.i64.wrap ((i : Int) + 1) = (i : Int) + 1 := wrap_i64 (by omega) (by omega)
    have hfr : ∀ j, h.raw (h.next + j) = none := fun j => hf _ (by omega)
    have s37 : pg.sh 59 = false := rfl
    have s31 : pg.sh 53 = false := rfl
    have pla := @place_run (marksF l) (marks_rise l) (by omega) pa a1 n (by omega)
    have plb := @place_run (marksF l) (marks_rise l) (by omega) pb b1 n (by omega)
    rw [a3] at pla
    rw [b3] at plb
    have hcan := ints_canonL (marksF l)
    have ba := yof_bound d c.a hy
    have bb := yof_bound d c.b hy
    have w2 : IntKind.i64.wrap (yOf d c.b - yOf d c.a) = yOf d c.b - yOf d c.a := wrap_i64 (by omega) (by omega)
    have hin := clB_in d c
    have hw : pureCall (rc pg n) 53 [D.int (yOf d c.b - yOf d c.a), D.int c.lo, D.int c.hi] = some (.ret (D.bool (!clB d c))) := by
      obtain ⟨m', rfl, e⟩ := body (pg := pg) (f := 53) (args := [D.int (yOf d c.b - yOf d c.a), D.int c.lo, D.int c.hi]) (show 0 < n by omega) rfl rfl
      rw [e, ← hin, inR_eq]
      by_cases h1 : c.lo ≤ yOf d c.b - yOf d c.a <;> simp [k53, Env.v_ini, h1]
    obtain ⟨A, hA⟩ : ∃ A, A = yOf d c.a := ⟨_, rfl⟩
    obtain ⟨B, hB⟩ : ∃ B, B = yOf d c.b := ⟨_, rfl⟩
    rw [← hA] at w2 hw a4
    rw [← hB] at w2 hw b4
    obtain ⟨da, hda⟩ : ∃ q, d[pa] = q := ⟨_, rfl⟩
    obtain ⟨db, hdb⟩ : ∃ q, d[pb] = q := ⟨_, rfl⟩
    rw [hda] at a4
    rw [hdb] at b4
    simp only [intsD] at pla plb
    cases hb : clB d c with
    | true =>
      rw [hb] at hw
      simp [k22l2, v61, v62, v63, v1, v6, hi, hc, clD, clC, dtD, dtC, D.cells, D.one, hfr, Nat.add_assoc, dcore_f, s37, s31, hcan, pla, plb, a2, b2, hda, hdb, a4, b4, w2, hw]
      exact .inr ⟨rfl, cls_bad hi (by rw [hc]; exact hb), _, _, rfl, by simp⟩
    | false =>
      rw [hb] at hw
      simp [k22l2, v61, v62, v63, v1, v6, hi, hc, clD, clC, dtD, dtC, D.cells, D.one, hfr, Nat.add_assoc, dcore_f, s37, s31, hcan, pla, plb, a2, b2, hda, hdb, a4, b4, w2, hw, w1]
      refine ⟨k - 1, by omega, _, _, i + 1, rfl, by omega, by simp [v61, clsD], by simp [v62], by simp, ⟨by simp [v0], by simp [v1, dtsD], by simp [v6, intsD]⟩, cls_snoc hi hok (by rw [hc]; exact hb), ?_⟩
      repeat' first | exact hf | apply Heap.Fr.bump | apply Heap.Fr.set
      all_goals (simp <;> omega)
  · simp [k22l2, v62, v63, hi]
    exact .inl ⟨rfl, _, _, i, rfl, by omega, by simp [v61, clsD], by simp [v62], by simp [v63], ⟨by simp [v0], by simp [v1, dtsD], by simp [v6, intsD]⟩, hok, hf.bump _⟩
end Go.Proofs.YtjgafgkkpofgbaaDoor
/- Years kept by claims: the program's answer; the law. -/
namespace Go.Proofs.YtjgafgkkpofgbaaDoor
open Go Go.Em
set_option maxRecDepth 100000
set_option maxHeartbeats 4000000 in
theorem keep_run (l : List Clm) (d : List Dt) {n : Nat} (hn : 2000 ≤ n) : pureCall (rc pg n) 22 [clsD l, dtsD d] = some (.ret (D.int (keepF l d))) := by
  obtain ⟨m, rfl, e⟩ := body (pg := pg) (f := 22) (args := [clsD l, dtsD d]) (show 0 < n by omega) rfl rfl
  rw [e]
  have c30 := fun h => call_of (h := h) (pg := pg) (f := 52) rfl (cls_canon l) (@chk_run l m (by omega))
  simp only [clsD] at c30
  by_cases h0 : chkF l = 0
  · obtain ⟨hl1, hl2, hl3⟩ := chk_ok h0
    rw [h0] at c30
    have c36 := fun h => call_of (h := h) (pg := pg) (f := 58) rfl (cls_canon l) (@marks_run l (fun c hc => ok_marks (hl2 c hc)) (by omega) m (by omega))
    simp only [clsD] at c36
    by_cases h1 : d.length = (marksF l).length
    · have h1' : ((d.length : Int) != (marksF l).length) = false := by simp [h1]
      simp [-bne_eq_false_iff_eq, k22, Env.v_ini, clsD, dtsD, c30, c36, h1', ev_loop]
      refine Res.endsAfter (lp_rule 0 (A0 l d) _ (k_round0 l d h1 (by omega)) d.length m _ (by omega) ⟨_, _, 0, rfl, by omega, by simp [dtsD], by simp, by simp, ⟨by simp [Env.v_ini, clsD], by simp [Env.v_ini, dtsD], by simp [intsD]⟩, by simp [msF], ?_⟩) ?_
      · repeat' first | exact Heap.Fr.empty | apply Heap.Fr.bump | apply Heap.Fr.set
      rintro x s (⟨rfl, x, h, i, rfl, hi, v25, v26, v27, ⟨v0, v1, v6⟩, ht, hf⟩ | ⟨rfl, hne, x, h, rfl, v4⟩)
      · have hil : i = d.length := by omega
        have hm : msF d = marksF l := by
          rw [List.take_of_length_le (show d.length ≤ i by omega), List.take_of_length_le (show (marksF l).length ≤ i by omega)] at ht
          exact ht
        simp only [clsD, dtsD] at v0 v1
        simp [v1, ev_loop]
        refine Res.endsAfter (lp_rule 1 (A1 l d) _ (k_round1 l d (by omega)) d.length m _ (by omega) ⟨_, _, 0, rfl, by omega, by simp [dtsD], by simp, by simp, ⟨by simp [v0, clsD], by simp [v1, dtsD], by simp [v6]⟩, by simp [yrsOk], ?_⟩) ?_
        · repeat' first | exact hf | apply Heap.Fr.bump | apply Heap.Fr.set
        rintro x s (⟨rfl, x, h, i, rfl, hi, v40, v41, v42, ⟨v0, v1, v6⟩, hy, hf⟩ | ⟨rfl, hy, x, h, rfl, v4⟩)
        · rw [List.take_of_length_le (show d.length ≤ i by omega)] at hy
          simp only [clsD, dtsD] at v0 v1
          simp [v0, ev_loop]
          refine Res.endsAfter (lp_rule 80 (A2 l d) _ (k_round2 l d hm (by omega) hy (by omega)) l.length m _ (by omega) ⟨_, _, 0, rfl, by omega, by simp [clsD], by simp, by simp, ⟨by simp [v0, clsD], by simp [v1, dtsD], by simp [v6]⟩, by simp [clsOk], ?_⟩) ?_
          · repeat' first | exact hf | apply Heap.Fr.bump | apply Heap.Fr.set
          rintro x s (⟨rfl, x, h, i, rfl, hi, v61, v62, v63, ⟨v0, v1, v6⟩, hk, hf⟩ | ⟨rfl, hk, x, h, rfl, v4⟩)
          · rw [List.take_of_length_le (show l.length ≤ i by omega)] at hk
            have e0 : keepF l d = 0 := by unfold keepF; rw [if_neg (by simpa using h0), if_neg (by simpa using hm), if_pos ⟨hy, hk⟩]
            simp [e0]
          · have e0 : keepF l d = 23 := by unfold keepF; rw [if_neg (by simpa using h0), if_neg (by simpa using hm), if_neg (by rw [hk]; simp)]
            simp [v4, e0]
        · have e0 : keepF l d = 23 := by unfold keepF; rw [if_neg (by simpa using h0), if_neg (by simpa using hm), if_neg (by rw [hy]; simp)]
          simp [v4, e0]
      · have e0 : keepF l d = 3 := by unfold keepF; rw [if_neg (by simpa using h0), if_pos hne]
        simp [v4, e0]
    · have h1' : ((d.length : Int) != (marksF l).length) = true := by simp; omega
      have e0 : keepF l d = 3 := by unfold keepF; rw [if_neg (by simpa using h0), if_pos (fun e => h1 (by rw [← e]; simp [msF]))]
      simp [-bne_iff_ne, k22, Env.v_ini, clsD, dtsD, c30, c36, h1', e0]
  · have h0' : (chkF l != 0) = true := by simpa using h0
    have e0 : keepF l d = chkF l := by unfold keepF; rw [if_pos h0]
    simp [k22, Env.v_ini, clsD, dtsD, c30, h0', e0]
end Go.Proofs.YtjgafgkkpofgbaaDoor
