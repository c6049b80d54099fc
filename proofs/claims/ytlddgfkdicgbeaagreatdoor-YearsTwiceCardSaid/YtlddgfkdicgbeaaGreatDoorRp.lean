/- Whether a set has a year, by the program and by the document. -/
import Derived.Test.YtlddgfkdicgbeaaGreatDoorRm
namespace Go.Proofs.YtlddgfkdicgbeaaGreatDoor
open Go Go.Em
set_option maxRecDepth 100000
def inB (r : Rn) (y : Int) : Bool := decide (r.1 ≤ y) && decide (y ≤ r.2)
def hasB (l : List Rn) (y : Int) : Bool := l.any fun r => inB (Runs.clipR r) y
theorem inB_iff (r : Rn) (y : Int) : inB r y = true ↔ Runs.inR r y := by unfold inB Runs.inR; rw [Bool.and_eq_true, decide_eq_true_iff, decide_eq_true_iff]
theorem hasB_iff (l : List Rn) (y : Int) : hasB l y = true ↔ Runs.inC l y := by
  unfold hasB
  rw [List.any_eq_true]
  constructor
  · rintro ⟨r, h1, h2⟩; exact ⟨r, h1, (inB_iff _ _).1 h2⟩
  · rintro ⟨r, h1, h2⟩; exact ⟨r, h1, (inB_iff _ _).2 h2⟩
theorem clips_any (l : List Rn) (y : Int) : (Runs.clips l).any (fun r => inB r y) = hasB l y := by
  rw [Bool.eq_iff_iff, hasB_iff, ← Runs.inC_clips, List.any_eq_true]
  constructor
  · rintro ⟨r, h1, h2⟩; exact ⟨r, h1, (inB_iff _ _).1 h2⟩
  · rintro ⟨r, h1, h2⟩; exact ⟨r, h1, (inB_iff _ _).2 h2⟩
theorem within_run {n : Nat} (hn : 1 ≤ n) (a lo hi : Int) (h : Heap) : call pg (rc pg n) 42 [D.int a, D.int lo, D.int hi] h = some (.ret (D.bool (inB (lo, hi) a)), h) := by
  refine call_of rfl rfl ?_
  obtain ⟨m, rfl, e⟩ := body (pg := pg) (f := 42) (args := [D.int a, D.int lo, D.int hi]) hn rfl rfl
  rw [e]
  unfold inB
  by_cases h1 : lo ≤ a <;> simp [k42, Env.v_ini, h1]
theorem hf_run {n : Nat} (hn : 2 ≤ n) (r : Rn) (y : Int) : pureCall (rc pg n) 41 [.agg [D.int r.1, D.int r.2], .eref [D.int y]] = some (.ret (D.bool (inB r y))) := by
  obtain ⟨m, rfl, e⟩ := body (pg := pg) (f := 41) (args := [.agg [D.int r.1, D.int r.2], .eref [D.int y]]) (show 0 < n by omega) rfl rfl
  rw [e]
  have hw := @within_run m (by omega)
  simp [k41, Env.v_ini, D.cells, D.one, hw]
def fnY (y : Int) : D := .fn (.func 41) [] [.eref [D.int y]]
def XfI (L : List Rn) (y : Int) (k : Nat) (s : St) : Prop := ∃ (x : Env 19) (h : Heap) (i : Nat), s = ⟨x.l, h, []⟩ ∧ i + k = L.length ∧ x.v 0 = rnsD L ∧ x.v 1 = fnY y ∧ x.v 7 = D.int L.length ∧ x.v 8 = D.int i ∧ (L.any fun r => inB r y) = (L.drop i).any fun r => inB r y
def XfQ (L : List Rn) (y : Int) (x : Ex) (s : St) : Prop := (x = .exit 0 ∧ (L.any fun r => inB r y) = false ∧ ∃ (z : Env 19) (h : Heap), s = ⟨z.l, h, []⟩) ∨ (x = .ret ∧ (L.any fun r => inB r y) = true ∧ ∃ (z : Env 19) (h : Heap) (i : Nat), s = ⟨z.l, h, []⟩ ∧ z.v 4 = D.int i)
set_option maxHeartbeats 4000000 in
theorem xf_round (L : List Rn) (hL : L.length ≤ 2000000000) (y : Int) : ∀ n, 3 ≤ n → ∀ k s, XfI L y k s → Res (k57l0.ev ⟨pg, 19, none⟩ (rc pg n) s) (Rnd (XfI L y) (XfQ L y) k) := by
  rintro n hn k s ⟨x, h, i, rfl, hik, v0, v1, v7, v8, ho⟩
  simp only [rnsD] at v0
  simp only [fnY] at v1
  by_cases hi : i < L.length
  · obtain ⟨r, hr⟩ : ∃ r, L[i] = r := ⟨_, rfl⟩
    rw [List.drop_eq_getElem_cons hi, hr, List.any_cons] at ho
    have w1 : IntKind.i64.wrap ((i : Int) + 1) = (i : Int) + 1 := wrap_i64 (by omega) (by omega)
    have c := fun h => call_of (h := h) (pg := pg) (f := 41) rfl (show D.canonL [.agg [D.int r.1, D.int r.2], .eref [D.int y]] = true by simp) (hf_run (n := n) (by omega) r y)
    cases hb : inB r y with
    | true =>
      rw [hb] at c ho
      simp [k57l0, v0, v1, v7, v8, hi, hr, rnD, rnC, D.cells, c]
      exact .inr ⟨rfl, ho, _, _, i, rfl, by simp⟩
    | false =>
      rw [hb] at c ho
      simp [k57l0, v0, v1, v7, v8, hi, hr, rnD, rnC, D.cells, c, w1]
      exact ⟨k - 1, by omega, _, _, i + 1, rfl, by omega, by simp [v0, rnsD], by simp [v1, fnY], by simp [v7], by simp, ho⟩
  · simp [k57l0, v7, v8, hi]
    rw [List.drop_of_length_le (by omega)] at ho
    exact .inl ⟨rfl, ho, _, _, rfl⟩
set_option maxHeartbeats 4000000 in
theorem ixf_run (L : List Rn) (hL : L.length ≤ 2000000000) (y : Int) {n : Nat} (hn : L.length + 10 ≤ n) : ∃ z : Int, pureCall (rc pg n) 57 [rnsD L, fnY y] = some (.ret (D.int z)) ∧ decide (0 ≤ z) = L.any fun r => inB r y := by
  obtain ⟨m, rfl, e⟩ := body (pg := pg) (f := 57) (args := [rnsD L, fnY y]) (show 0 < n by omega) rfl rfl
  rw [e]
  have key : ∀ x s, XfQ L y x s → ∃ z : Int, decide (0 ≤ z) = (L.any fun r => inB r y) ∧ endK (rc pg m) [(ResultVar.tmp 4, false, 0)] (andThen (blockK 0 (some (x, s))) (Cd.ev ⟨pg, 19, none⟩ (rc pg m) ((Cd.region [⟨none, some 4, .inl (.mv (.c (.int .i64 (-1))))⟩]).seq .ret))) = some (.ret (D.int z)) := by
    rintro x s (⟨rfl, ho, z, h, rfl⟩ | ⟨rfl, ho, z, h, i, rfl, w4⟩)
    · exact ⟨-1, by rw [ho]; rfl, by simp⟩
    · exact ⟨i, by rw [ho]; simp, by simp [w4]⟩
  have hl := lp_rule 3 (XfI L y) (XfQ L y) (xf_round L hL y) L.length m
  suffices hs : ∃ z : Int, decide (0 ≤ z) = (L.any fun r => inB r y) ∧ endK (rc pg m) [(ResultVar.tmp 4, false, 0)] (Cd.ev ⟨pg, 19, none⟩ (rc pg m) k57 { e := (Env.ini 19 [rnsD L, fnY y]).l, h := Heap.empty, df := [] }) = some (.ret (D.int z)) by
    obtain ⟨z, h1, h2⟩ := hs
    exact ⟨z, h2, h1⟩
  simp [-decide_eq_true_eq, k57, Env.v_ini, rnsD, ev_loop]
  refine Res.endsEx (out := fun z => Out.ret (D.int z)) (C := fun z : Int => decide (0 ≤ z) = L.any fun r => inB r y) (hl _ (by omega) ⟨_, _, 0, rfl, by omega, by simp [Env.v_ini, rnsD], by simp [Env.v_ini], by simp, by simp, by simp⟩) ?_
  exact key
set_option maxHeartbeats 4000000 in
theorem contains_run (L : List Rn) (hL : L.length ≤ 2000000000) (y : Int) {n : Nat} (hn : L.length + 20 ≤ n) : pureCall (rc pg n) 39 [rnsD L, fnY y] = some (.ret (D.bool (L.any fun r => inB r y))) := by
  obtain ⟨m, rfl, e⟩ := body (pg := pg) (f := 39) (args := [rnsD L, fnY y]) (show 0 < n by omega) rfl rfl
  rw [e]
  obtain ⟨z, h1, h2⟩ := ixf_run L hL y (n := m) (by omega)
  have c := fun h => call_of (h := h) (pg := pg) (f := 57) rfl (show D.canonL [rnsD L, fnY y] = true by have := rn_can L; simp [rnsD, fnY, this]) h1
  cases hb : (L.any fun r => inB r y) with
  | true =>
    rw [hb] at h2
    have hz := of_decide_eq_true h2
    simp [k39, Env.v_ini, c, hz]
  | false =>
    rw [hb] at h2
    have hz := of_decide_eq_false h2
    simp [k39, Env.v_ini, c, hz]
set_option maxHeartbeats 4000000 in
theorem has_run (l : List Rn) (hl : l.length ≤ 10000000) (y : Int) {n : Nat} (hn : 10000100 ≤ n) : pureCall (rc pg n) 21 [rnsD l, D.int y] = some (.ret (D.bool (hasB l y))) := by
  obtain ⟨m, rfl, e⟩ := body (pg := pg) (f := 21) (args := [rnsD l, D.int y]) (show 0 < n by omega) rfl rfl
  rw [e]
  have hle := clips_le l
  have c := fun h => call_of (h := h) (pg := pg) (f := 40) rfl (rns_can l) (clipped_run l hl (n := m) (by omega))
  have x := contains_run (Runs.clips l) (by omega) y (n := m) (by omega)
  rw [clips_any] at x
  have c39 : ∀ h : Heap, h.get 3 = some (.cells 3 [D.int y]) → ∃ h', call pg (rc pg m) 39 [rnsD (Runs.clips l), .fn (.func 41) [] [.ptr 3 0]] h = some (.ret (D.bool (hasB l y)), h') := fun h hg => by
    have ha : each (Go.Em.frz h depth) [rnsD (Runs.clips l), .fn (.func 41) [] [.ptr 3 0]] = some ([rnsD (Runs.clips l), fnY y], [] ++ ([3] ++ [])) := by
      show each (Go.Em.frz h 24) _ = _
      have h2 : Go.Em.frz h 24 (.fn (.func 41) [] [.ptr 3 0]) = some (fnY y, [3]) := by
        simp [fnY, hg]
      simp only [each, rns_frz, h2]
    exact call_frzk (pg := pg) (f := 39) rfl ha x
  obtain ⟨H, hH⟩ : ∃ H, H = ((Heap.empty.bump 9).set 3 (some (.cells 3 [D.int y]))).bump 9 := ⟨_, rfl⟩
  obtain ⟨h', c2⟩ := c39 H (by rw [hH]; simp)
  simp only [rnsD] at c c2
  simp [k21, Env.v_ini, rnsD, D.cells, D.one, ← hH, c, c2]
end Go.Proofs.YtlddgfkdicgbeaaGreatDoor
/- Sums of years and numbers, by the program and by the document; the law of spreads. -/
namespace Go.Proofs.YtlddgfkdicgbeaaGreatDoor
open Go Go.Em
set_option maxRecDepth 100000
def spr (a b : Int) (r : Rn) : Rn := (if r.1 = -1000000000 then r.1 else r.1 + a, if r.2 = 1000000000 then r.2 else r.2 + b)
def sprF (l : List Rn) (a b : Int) : List Rn := if a < -1000000000 ∨ a > b ∨ b > 1000000000 then [] else Runs.rnorm ((Runs.rnorm l).map (spr a b))
def mixL (T : List Rn) (a b : Int) (i : Nat) : List Rn := (T.take i).map (spr a b) ++ T.drop i
theorem mix_len (T : List Rn) (a b : Int) (i : Nat) : (mixL T a b i).length = T.length := by unfold mixL; simp; omega
theorem rn_put {L : List Rn} {i : Nat} (hi : i < L.length) (v : Rn) : (L.flatMap rnC).take (i * 2) ++ (rnC v ++ (L.flatMap rnC).drop (i * 2 + 2)) = (L.set i v).flatMap rnC := by
  rw [show i * 2 + 2 = (i + 1) * 2 by omega, rn_take, rn_drop, List.set_eq_take_append_cons_drop, if_pos hi, List.flatMap_append, List.flatMap_cons]
theorem mix_get (T : List Rn) (a b : Int) {i : Nat} (hi : i < T.length) : ∃ h : i < (mixL T a b i).length, (mixL T a b i)[i] = T[i] := by
  refine ⟨by rw [mix_len]; exact hi, ?_⟩
  unfold mixL
  rw [List.getElem_append_right (by simp; omega)]
  simp [Nat.min_eq_left (Nat.le_of_lt hi)]
theorem mix_set (T : List Rn) (a b : Int) {i : Nat} (hi : i < T.length) : (mixL T a b i).set i (spr a b T[i]) = mixL T a b (i + 1) := by
  unfold mixL
  rw [List.set_append_right _ _ (by simp; omega), take_snoc hi, List.map_append]
  have : i - (List.map (spr a b) (List.take i T)).length = 0 := by simp; omega
  rw [this, List.drop_eq_getElem_cons hi, List.set_cons_zero]
  simp
def SpI (T : List Rn) (a b : Int) (kk : Nat) (k : Nat) (s : St) : Prop := ∃ (x : Env 57) (h : Heap) (i : Nat), s = ⟨x.l, h, []⟩ ∧ i + k = T.length ∧ x.v 1 = D.int a ∧ x.v 2 = D.int b ∧ x.v 7 = .slr kk 0 T.length 2 none ∧ x.v 23 = .slr kk 0 T.length 2 none ∧ x.v 24 = D.int T.length ∧ x.v 25 = D.int i ∧ h.get kk = some (.cells 40 ((mixL T a b i).flatMap rnC)) ∧ kk < h.next ∧ h.Fr
set_option maxHeartbeats 16000000 in
theorem sp_round (T : List Rn) (a b : Int) (kk : Nat) (hT : T.length ≤ 4000000) (hok : ∀ r, r ∈ T → Runs.okR r) (ha : -1000000000 ≤ a) (hab : a ≤ b) (hb : b ≤ 1000000000) : ∀ n, 1 ≤ n → ∀ k s, SpI T a b kk k s → Res (k23l0.ev ⟨pg, 57, none⟩ (rc pg n) s) (Rnd (SpI T a b kk) (fun x s => x = .exit 0 ∧ SpI T a b kk 0 s) k) := by
  rintro n hn k s ⟨x, h, i, rfl, hik, v1, v2, v7, v23, v24, v25, hg, hkk, hf⟩
  by_cases hi : i < T.length
  · obtain ⟨r, hr⟩ : ∃ r, T[i] = r := ⟨_, rfl⟩
    have hro : Runs.okR r := hr ▸ hok _ (List.getElem_mem hi)
    obtain ⟨o1, o2, o3⟩ := hro
    have hF : Runs.FAR = 1000000000 := rfl
    obtain ⟨hi', hmg⟩ := mix_get T a b hi
    have hms := mix_set T a b hi
    rw [hr] at hms hmg
    have hG := rn_get hi'
    rw [hmg] at hG
    have hml := mix_len T a b i
    obtain ⟨M, hM⟩ : ∃ M, M = mixL T a b i := ⟨_, rfl⟩
    rw [← hM] at hg hG hms hi' hml
    have hcl := cells_rn M
    have hp1 : (M.flatMap rnC).take (i * 2) ++ D.int (spr a b r).1 :: D.int (spr a b r).2 :: (M.flatMap rnC).drop (i * 2 + 2) = (mixL T a b (i + 1)).flatMap rnC := by
      rw [← hms, ← rn_put hi' (spr a b r)]; rfl
    obtain ⟨C, hC⟩ : ∃ C, C = M.flatMap rnC := ⟨_, rfl⟩
    rw [← hC] at hg hG hcl hp1
    have hb2 : i * 2 + 2 ≤ C.length := by omega
    have hdr : C.drop (i * 2) = D.int r.1 :: D.int r.2 :: C.drop (i * 2 + 2) := by
      have h1 : C.drop (i * 2) = (C.drop (i * 2)).take 2 ++ (C.drop (i * 2)).drop 2 := (List.take_append_drop 2 _).symm
      rw [h1, hG, List.drop_drop]; rfl
    obtain ⟨A, hA⟩ : ∃ A, A = C.take (i * 2) := ⟨_, rfl⟩
    obtain ⟨Z, hZ⟩ : ∃ Z, Z = C.drop (i * 2 + 2) := ⟨_, rfl⟩
    rw [← hA, ← hZ] at hp1
    rw [← hZ] at hdr
    have hCA : C = A ++ D.int r.1 :: D.int r.2 :: Z := by rw [hA, ← hdr, List.take_append_drop]
    have hAl : A.length = i * 2 := by rw [hA, List.length_take]; omega
    have w1 : IntKind.i64.wrap ((i : Int) + 1) = (i : Int) + 1 := wrap_i64 (by omega) (by omega)
    have w2 : IntKind.i64.wrap (r.1 + a) = r.1 + a := wrap_i64 (by omega) (by omega)
    have w3 : IntKind.i64.wrap (r.2 + b) = r.2 + b := wrap_i64 (by omega) (by omega)
    have hfr : ∀ j, h.raw (h.next + j) = none := fun j => hf _ (by omega)
    have ne1 : ∀ j, (h.next + j = kk) = False := fun j => by simp; omega
    have ne2 : ∀ j, (kk = h.next + j) = False := fun j => by simp; omega
    have len2 : ∀ u v : D, (A ++ u :: v :: Z).length = C.length := fun u v => by rw [hCA]; simp
    have t1 : ∀ u v w : D, (A ++ u :: v :: Z).take (i * 2) ++ w :: (A ++ u :: v :: Z).drop (i * 2 + 1) = A ++ w :: v :: Z := fun u v w => by
      rw [show i * 2 + 1 = A.length + 1 by omega, ← hAl, List.take_left, List.drop_length_add_append]; simp
    have t2 : ∀ u v w : D, (A ++ u :: v :: Z).take (i * 2 + 1) ++ w :: (A ++ u :: v :: Z).drop (i * 2 + 2) = A ++ u :: w :: Z := fun u v w => by
      rw [show i * 2 + 1 = A.length + 1 by omega, show i * 2 + 2 = A.length + 2 by omega, List.take_length_add_append, List.drop_length_add_append]; simp
    have q1 : ∀ u v : D, (A ++ u :: v :: Z)[i * 2]?.getD D.junk = u := fun u v => by rw [List.getElem?_append_right (by omega), hAl, Nat.sub_self]; rfl
    have q2 : ∀ u v : D, (A ++ u :: v :: Z)[i * 2 + 1]?.getD D.junk = v := fun u v => by rw [List.getElem?_append_right (by omega), hAl, show i * 2 + 1 - i * 2 = 1 by omega]; rfl
    -- what simp needs of the stores: lists that stay closed
    have facts : ∀ u v : Int, ∃ E : List D, E = A ++ D.int u :: D.int v :: Z ∧ i * 2 + 2 ≤ E.length ∧ i * 2 + 1 ≤ E.length ∧ i * 2 < E.length ∧ i * 2 + 1 < E.length ∧ E[i * 2]?.getD D.junk = D.int u ∧ E[i * 2 + 1]?.getD D.junk = D.int v ∧ (∀ h' : i * 2 < E.length, E[i * 2]'h' = D.int u) ∧ (∀ h' : i * 2 + 1 < E.length, E[i * 2 + 1]'h' = D.int v) ∧ (∀ w, E.take (i * 2) ++ w :: E.drop (i * 2 + 1) = A ++ w :: D.int v :: Z) ∧ (∀ w, E.take (i * 2 + 1) ++ w :: E.drop (i * 2 + 2) = A ++ D.int u :: w :: Z) := fun u v => by
      have hl : (A ++ D.int u :: D.int v :: Z).length = i * 2 + Z.length + 2 := by simp [hAl]; omega
      refine ⟨_, rfl, by omega, by omega, by omega, by omega, q1 _ _, q2 _ _, fun h' => ?_, fun h' => ?_, t1 _ _, t2 _ _⟩
      · have := q1 (D.int u) (D.int v); rwa [List.getElem?_eq_getElem h'] at this
      · have := q2 (D.int u) (D.int v); rwa [List.getElem?_eq_getElem h'] at this
    obtain ⟨E0, hE0, a1, a2, a3, a4, a5, a6, a7, a8, a9, a10⟩ := facts r.1 r.2
    rw [hCA, ← hE0] at hg hG
    by_cases c1 : r.1 = -1000000000
    · have c1' : (r.1 != -1000000000) = false := by simp [c1]
      have s1 : (spr a b r).1 = r.1 := by unfold spr; simp [c1]
      by_cases c2 : r.2 = 1000000000
      · have c2' : (r.2 != 1000000000) = false := by simp [c2]
        have s2 : (spr a b r).2 = r.2 := by unfold spr; simp [c2]
        rw [s1, s2, ← hE0] at hp1
        simp [-bne_iff_ne, -bne_eq_false_iff_eq, k23l0, v23, v24, v25, hi, hg, hG, D.cells, D.one, hfr, Nat.add_assoc, c1', c2', w1, a1]
        refine ⟨k - 1, by omega, _, _, i + 1, rfl, by omega, by simp [v1], by simp [v2], by simp [v7], by simp [v23], by simp [v24], by simp, by simp [ne2, hg, hp1], by simp <;> omega, ?_⟩
        repeat' first | exact hf | apply Heap.Fr.bump | apply Heap.Fr.set
        all_goals (simp <;> omega)
      · have c2' : (r.2 != 1000000000) = true := by simp [c2]
        have s2 : (spr a b r).2 = r.2 + b := by unfold spr; simp [c2]
        obtain ⟨E1, hE1, b1, b2, b3, b4, b5, b6, b7, b8, b9, b10⟩ := facts r.1 (r.2 + b)
        rw [s1, s2, ← hE1] at hp1
        have a11 := a10 (D.int (r.2 + b))
        rw [← hE1] at a11
        simp [-bne_iff_ne, -bne_eq_false_iff_eq, k23l0, v2, v7, v23, v24, v25, hi, hg, hG, D.cells, D.one, hfr, Nat.add_assoc, ne2, c1', c2', w1, w3, a1, a4, a8, a11]
        refine ⟨k - 1, by omega, _, _, i + 1, rfl, by omega, by simp [v1], by simp [v2], by simp [v7], by simp [v23], by simp [v24], by simp, by simp [hp1], by simp <;> omega, ?_⟩
        repeat' first | exact hf | apply Heap.Fr.bump | apply Heap.Fr.set
        all_goals (simp <;> omega)
    · have c1' : (r.1 != -1000000000) = true := by simp [c1]
      have s1 : (spr a b r).1 = r.1 + a := by unfold spr; simp [c1]
      obtain ⟨E1, hE1, b1, b2, b3, b4, b5, b6, b7, b8, b9, b10⟩ := facts (r.1 + a) r.2
      have a11 := a9 (D.int (r.1 + a))
      rw [← hE1] at a11
      by_cases c2 : r.2 = 1000000000
      · have c2' : (r.2 != 1000000000) = false := by simp [c2]
        have s2 : (spr a b r).2 = r.2 := by unfold spr; simp [c2]
        rw [s1, s2, ← hE1] at hp1
        simp [-bne_iff_ne, -bne_eq_false_iff_eq, k23l0, v1, v7, v23, v24, v25, hi, hg, hG, D.cells, D.one, hfr, Nat.add_assoc, ne1, ne2, c1', c2', w1, w2, a1, a2, a3, a7, a11]
        refine ⟨k - 1, by omega, _, _, i + 1, rfl, by omega, by simp [v1], by simp [v2], by simp [v7], by simp [v23], by simp [v24], by simp, by simp [hp1], by simp <;> omega, ?_⟩
        repeat' first | exact hf | apply Heap.Fr.bump | apply Heap.Fr.set
        all_goals (simp <;> omega)
      · have c2' : (r.2 != 1000000000) = true := by simp [c2]
        have s2 : (spr a b r).2 = r.2 + b := by unfold spr; simp [c2]
        obtain ⟨E2, hE2, d1, d2, d3, d4, d5, d6, d7, d8, d9, d10⟩ := facts (r.1 + a) (r.2 + b)
        have b11 := b10 (D.int (r.2 + b))
        rw [← hE2] at b11
        rw [s1, s2, ← hE2] at hp1
        simp [-bne_iff_ne, -bne_eq_false_iff_eq, k23l0, v1, v2, v7, v23, v24, v25, hi, hg, hG, D.cells, D.one, hfr, Nat.add_assoc, ne1, ne2, c1', c2', w1, w2, w3, a1, a2, a3, a7, a11, b1, b4, b8, b11]
        refine ⟨k - 1, by omega, _, _, i + 1, rfl, by omega, by simp [v1], by simp [v2], by simp [v7], by simp [v23], by simp [v24], by simp, by simp [hp1], by simp <;> omega, ?_⟩
        repeat' first | exact hf | apply Heap.Fr.bump | apply Heap.Fr.set
        all_goals (simp <;> omega)
  · simp [k23l0, v24, v25, hi]
    exact ⟨_, _, i, rfl, by omega, by simp [v1], by simp [v2], by simp [v7], by simp [v23], by simp [v24], by simp [v25], by simpa using hg, by simp; omega, hf.bump _⟩
end Go.Proofs.YtlddgfkdicgbeaaGreatDoor
