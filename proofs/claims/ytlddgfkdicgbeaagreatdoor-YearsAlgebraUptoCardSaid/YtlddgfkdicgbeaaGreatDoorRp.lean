/- Whether a set has a year, by the program and by the document. -/
import Derived.Test.YtlddgfkdicgbeaaGreatDoorRm
namespace Go.Proofs.YtlddgfkdicgbeaaGreatDoor
open Go Go.Em
set_option maxRecDepth 100000
def inB (r : Rn) (y : Int) : Bool := decide (r.1 ≤ y) && decide (y ≤ r.2)
def hasB (l : List Rn) (y : Int) : Bool := l.any fun r => inB (Runs.clipR r) y
theorem inB_iff (r : Rn) (y : Int) : inB r y = true ↔ Runs.inR r y := by unfold inB Runs.inR; rw [Bool.and_eq_true, decide_eq_true_iff, decide_eq_true_iff]
theorem hasB_iff (l : List Rn) (y : Int) : hasB l y = true ↔ Runs.inC l y := by
  unfold hasB
  rw [List.any_eq_true]
  constructor
  · rintro ⟨r, h1, h2⟩; exact ⟨r, h1, (inB_iff _ _).1 h2⟩
  · rintro ⟨r, h1, h2⟩; exact ⟨r, h1, (inB_iff _ _).2 h2⟩
theorem clips_any (l : List Rn) (y : Int) : (Runs.clips l).any (fun r => inB r y) = hasB l y := by
  rw [Bool.eq_iff_iff, hasB_iff, ← Runs.inC_clips, List.any_eq_true]
  constructor
  · rintro ⟨r, h1, h2⟩; exact ⟨r, h1, (inB_iff _ _).1 h2⟩
  · rintro ⟨r, h1, h2⟩; exact ⟨r, h1, (inB_iff _ _).2 h2⟩
theorem within_run {n : Nat} (hn : 1 ≤ n) (a lo hi : Int) (h : Heap) : call pg (rc pg n) 42 [D.int a, D.int lo, D.int hi] h = some (.ret (D.bool (inB (lo, hi) a)), h) := by
  refine call_of rfl rfl ?_
  obtain ⟨m, rfl, e⟩ := body (pg := pg) (f := 42) (args := [D.int a, D.int lo, D.int hi]) hn rfl rfl
  rw [e]
  unfold inB
  by_cases h1 : lo ≤ a <;> simp [k42, Env.v_ini, h1]
theorem hf_run {n : Nat} (hn : 2 ≤ n) (r : Rn) (y : Int) : pureCall (rc pg n) 41 [.agg [D.int r.1, D.int r.2], .eref [D.int y]] = some (.ret (D.bool (inB r y))) := by
  obtain ⟨m, rfl, e⟩ := body (pg := pg) (f := 41) (args := [.agg [D.int r.1, D.int r.2], .eref [D.int y]]) (show 0 < n by omega) rfl rfl
  rw [e]
  have hw := @within_run m (by omega)
  simp [k41, Env.v_ini, D.cells, D.one, hw]
def fnY (y : Int) : D := .fn (.func 41) [] [.eref [D.int y]]
def XfI (L : List Rn) (y : Int) (k : Nat) (s : St) : Prop := ∃ (x : Env 19) (h : Heap) (i : Nat), s = ⟨x.l, h, []⟩ ∧ i + k = L.length ∧ x.v 0 = rnsD L ∧ x.v 1 = fnY y ∧ x.v 7 = D.int L.length ∧ x.v 8 = D.int i ∧ (L.any fun r => inB r y) = (L.drop i).any fun r => inB r y
def XfQ (L : List Rn) (y : Int) (x : Ex) (s : St) : Prop := (x = .exit 0 ∧ (L.any fun r => inB r y) = false ∧ ∃ (z : Env 19) (h : Heap), s = ⟨z.l, h, []⟩) ∨ (x = .ret ∧ (L.any fun r => inB r y) = true ∧ ∃ (z : Env 19) (h : Heap) (i : Nat), s = ⟨z.l, h, []⟩ ∧ z.v 4 = D.int i)
set_option maxHeartbeats 4000000 in
theorem xf_round (L : List Rn) (hL : L.length ≤ 2000000000) (y : Int) : ∀ n, 3 ≤ n → ∀ k s, XfI L y k s → Res (k57l0.ev ⟨pg, 19, none⟩ (rc pg n) s) (Rnd (XfI L y) (XfQ L y) k) := by
  rintro n hn k s ⟨x, h, i, rfl, hik, v0, v1, v7, v8, ho⟩
  simp only [rnsD] at v0
  simp only [fnY] at v1
  by_cases hi : i < L.length
  · obtain ⟨r, hr⟩ : ∃ r, L[i] = r := ⟨_, rfl⟩
    rw [List.drop_eq_getElem_cons hi, hr, List.any_cons] at ho
    have w1 : IntKind.i64.wrap ((i : Int) + 1) = (i : Int) + 1 := wrap_i64 (by omega) (by omega)
    have c := fun h => call_of (h := h) (pg := pg) (f := 41) rfl (show D.canonL [.agg [D.int r.1, D.int r.2], .eref [D.int y]] = true by simp) (hf_run (n := n) (by omega) r y)
    cases hb : inB r y with
    | true =>
      rw [hb] at c ho
      simp [k57l0, v0, v1, v7, v8, hi, hr, rnD, rnC, D.cells, c]
      exact .inr ⟨rfl, ho, _, _, i, rfl, by simp⟩
    | false =>
      rw [hb] at c ho
      simp [k57l0, v0, v1, v7, v8, hi, hr, rnD, rnC, D.cells, c, w1]
      exact ⟨k - 1, by omega, _, _, i + 1, rfl, by omega, by simp [v0, rnsD], by simp [v1, fnY], by simp [v7], by simp, ho⟩
  · simp [k57l0, v7, v8, hi]
    rw [List.drop_of_length_le (by omega)] at ho
    exact .inl ⟨rfl, ho, _, _, rfl⟩
set_option maxHeartbeats 4000000 in
theorem ixf_run (L : List Rn) (hL : L.length ≤ 2000000000) (y : Int) {n : Nat} (hn : L.length + 10 ≤ n) : ∃ z : Int, pureCall (rc pg n) 57 [rnsD L, fnY y] = some (.ret (D.int z)) ∧ decide (0 ≤ z) = L.any fun r => inB r y := by
  obtain ⟨m, rfl, e⟩ := body (pg := pg) (f := 57) (args := [rnsD L, fnY y]) (show 0 < n by omega) rfl rfl
  rw [e]
  have key : ∀ x s, XfQ L y x s → ∃ z : Int, decide (0 ≤ z) = (L.any fun r => inB r y) ∧ endK (rc pg m) [(ResultVar.tmp 4, false, 0)] (andThen (blockK 0 (some (x, s))) (Cd.ev ⟨pg, 19, none⟩ (rc pg m) ((Cd.region [⟨none, some 4, .inl (.mv (.c (.int .i64 (-1))))⟩]).seq .ret))) = some (.ret (D.int z)) := by
    rintro x s (⟨rfl, ho, z, h, rfl⟩ | ⟨rfl, ho, z, h, i, rfl, w4⟩)
    · exact ⟨-1, by rw [ho]; rfl, by simp⟩
    · exact ⟨i, by rw [ho]; simp, by simp [w4]⟩
  have hl := lp_rule 3 (XfI L y) (XfQ L y) (xf_round L hL y) L.length m
  suffices hs : ∃ z : Int, decide (0 ≤ z) = (L.any fun r => inB r y) ∧ endK (rc pg m) [(ResultVar.tmp 4, false, 0)] (Cd.ev ⟨pg, 19, none⟩ (rc pg m) k57 { e := (Env.ini 19 [rnsD L, fnY y]).l, h := Heap.empty, df := [] }) = some (.ret (D.int z)) by
    obtain ⟨z, h1, h2⟩ := hs
    exact ⟨z, h2, h1⟩
  simp [-decide_eq_true_eq, k57, Env.v_ini, rnsD, ev_loop]
  refine Res.endsEx (out := fun z => Out.ret (D.int z)) (C := fun z : Int => decide (0 ≤ z) = L.any fun r => inB r y) (hl _ (by omega) ⟨_, _, 0, rfl, by omega, by simp [Env.v_ini, rnsD], by simp [Env.v_ini], by simp, by simp, by simp⟩) ?_
  exact key
set_option maxHeartbeats 4000000 in
theorem contains_run (L : List Rn) (hL : L.length ≤ 2000000000) (y : Int) {n : Nat} (hn : L.length + 20 ≤ n) : pureCall (rc pg n) 39 [rnsD L, fnY y] = some (.ret (D.bool (L.any fun r => inB r y))) := by
  obtain ⟨m, rfl, e⟩ := body (pg := pg) (f := 39) (args := [rnsD L, fnY y]) (show 0 < n by omega) rfl rfl
  rw [e]
  obtain ⟨z, h1, h2⟩ := ixf_run L hL y (n := m) (by omega)
  have c := fun h => call_of (h := h) (pg := pg) (f := 57) rfl (show D.canonL [rnsD L, fnY y] = true by have := rn_can L; simp [rnsD, fnY, this]) h1
  cases hb : (L.any fun r => inB r y) with
  | true =>
    rw [hb] at h2
    have hz := of_decide_eq_true h2
    simp [k39, Env.v_ini, c, hz]
  | false =>
    rw [hb] at h2
    have hz := of_decide_eq_false h2
    simp [k39, Env.v_ini, c, hz]
set_option maxHeartbeats 4000000 in
theorem has_run (l : List Rn) (hl : l.length ≤ 10000000) (y : Int) {n : Nat} (hn : 10000100 ≤ n) : pureCall (rc pg n) 21 [rnsD l, D.int y] = some (.ret (D.bool (hasB l y))) := by
  obtain ⟨m, rfl, e⟩ := body (pg := pg) (f := 21) (args := [rnsD l, D.int y]) (show 0 < n by omega) rfl rfl
  rw [e]
  have hle := clips_le l
  have c := fun h => call_of (h := h) (pg := pg) (f := 40) rfl (rns_can l) (clipped_run l hl (n := m) (by omega))
  have x := contains_run (Runs.clips l) (by omega) y (n := m) (by omega)
  rw [clips_any] at x
  have c39 : ∀ h : Heap, h.get 3 = some (.cells 3 [D.int y]) → ∃ h', call pg (rc pg m) 39 [rnsD (Runs.clips l), .fn (.func 41) [] [.ptr 3 0]] h = some (.ret (D.bool (hasB l y)), h') := fun h hg => by
    have ha : each (Go.Em.frz h depth) [rnsD (Runs.clips l), .fn (.func 41) [] [.ptr 3 0]] = some ([rnsD (Runs.clips l), fnY y], [] ++ ([3] ++ [])) := by
      show each (Go.Em.frz h 24) _ = _
      have h2 : Go.Em.frz h 24 (.fn (.func 41) [] [.ptr 3 0]) = some (fnY y, [3]) := by
        simp [fnY, hg]
      simp only [each, rns_frz, h2]
    exact call_frzk (pg := pg) (f := 39) rfl ha x
  obtain ⟨H, hH⟩ : ∃ H, H = ((Heap.empty.bump 9).set 3 (some (.cells 3 [D.int y]))).bump 9 := ⟨_, rfl⟩
  obtain ⟨h', c2⟩ := c39 H (by rw [hH]; simp)
  simp only [rnsD] at c c2
  simp [k21, Env.v_ini, rnsD, D.cells, D.one, ← hH, c, c2]
end Go.Proofs.YtlddgfkdicgbeaaGreatDoor
/- Sums of years and numbers, by the program and by the document; the law of spreads. -/
namespace Go.Proofs.YtlddgfkdicgbeaaGreatDoor
open Go Go.Em
set_option maxRecDepth 100000
end Go.Proofs.YtlddgfkdicgbeaaGreatDoor
