/- Whether a sheet is valid. -/
import Derived.Test.YtomiigdpggeacaaDoorIter
namespace Go.Proofs.YtomiigdpggeacaaDoor
open Go Go.Em
set_option maxRecDepth 100000
/-- Do the marks rise, from a mark on? -/
def ordF (core a : Int) : List Rw → Bool
  | [] => true
  | r :: l => if r.k = 1 then (if markF core r.n ≤ a then false else ordF core (markF core r.n) l) else ordF core a l
def chkF (i r c : Int) (l : List Rw) : Int :=
  if inB i 1 99999 = false ∨ inB r 1 99 = false ∨ inB c 0 31 = false then 11 else if (natsF l).2 ≠ 0 then (natsF l).2 else if ordF c (-1) l = true then 0 else 15
def CL (X : Env 48) (M : Nat) : Lp := ⟨X.l, [34, 35], k40l0, k40l1, M, .ready, .normal⟩
def CJ (X : Env 48) (K M : Nat) (i r c : Int) (l0 : List Rw) (l : List Rw) (a : Int) (h : Heap) : Prop :=
  h.get K = some (.loop (CL X M)) ∧ h.get 1 = some (.cells 25 (sheetC i r c l0)) ∧ h.get 2 = some (.cells 26 [D.int 0]) ∧ h.get M = some .mark ∧ ordF c (-1) l0 = ordF c a l
def CZ (K M : Nat) (c : Int) (l0 : List Rw) (h : Heap) : Prop :=
  (∃ q, h.get K = some (.loop q) ∧ q.st = .done ∧ q.pe = .ret) ∧ h.get 2 = some (.cells 26 [D.int 15]) ∧ h.get M = some .mark ∧ ordF c (-1) l0 = false
set_option maxHeartbeats 1000000 in
theorem check_iter (X : Env 48) (K M : Nat) (hM : 2 < M) (hK : K = M + 1) (i r c : Int) (l0 : List Rw) (x1 : X.v 1 = .ptr 1 0) (x2 : X.v 2 = .ptr 2 0) : IterH K (M + 2) c 6 (CJ X K M i r c l0) (CZ K M c l0) := by
  refine ⟨fun l a h h' ⟨g1, g2, g3, g4, g5⟩ hn g => ⟨?_, ?_, ?_, ?_, g5⟩, ?_⟩
  · rw [g.get (by omega)]; exact g1
  · rw [g.get (by omega)]; exact g2
  · rw [g.get (by omega)]; exact g3
  · rw [g.get (by omega)]; exact g4
  rintro n hn w l a h ⟨g1, g2, g3, g4, g5⟩ hf hn0
  obtain ⟨m, rfl⟩ := more_of (show 1 ≤ n by omega)
  have hm := @mark_run m (by omega)
  have hfr : ∀ j, h.raw (h.next + j) = none := fun j => hf _ (by omega)
  have ne1 : ∀ j, (K = h.next + j) = False := fun j => by simp; omega
  have ne2 : ∀ j, (h.next + j = K) = False := fun j => by simp; omega
  have ne3 : ∀ j, (1 = h.next + j) = False := fun j => by simp; omega
  have ne4 : ∀ j, (2 = h.next + j) = False := fun j => by simp; omega
  have ne5 : (1 = K) = False := by simp; omega
  have ne6 : (2 = K) = False := by simp; omega
  have ne7 : (K = 2) = False := by simp; omega
  have ne8 : (M = K) = False := by simp; omega
  have ne9 : (M = 2) = False := by simp; omega
  have ne10 : ∀ j, (M = h.next + j) = False := fun j => by simp; omega
  have ne11 : (K = M) = False := by simp; omega
  have ne12 : (1 = 2) = False := by simp
  have g2' := g2
  simp only [sheetC] at g2
  obtain ⟨L, hL⟩ : ∃ L, L = CL X M := ⟨_, rfl⟩
  have le : L.e = X.l := by rw [hL]; rfl
  have lp : L.ps = [34, 35] := by rw [hL]; rfl
  have la : L.as = k40l0 := by rw [hL]; rfl
  have lb : L.bd = k40l1 := by rw [hL]; rfl
  rw [← hL] at g1
  have key := @yl_rule pg m K h L [D.int a, rowD w] (fun x h' => h.next ≤ h'.next ∧ h'.Fr ∧ (∀ k, M + 2 ≤ k → k < h.next → h'.raw k = h.raw k) ∧ h'.get 1 = h.get 1 ∧ h'.get M = some .mark ∧
    ((x = .normal ∧ h'.get 2 = some (.cells 26 [D.int 0]) ∧ ordF c a (w :: l) = ordF c (nextA c a w) l) ∨ (x = .ret ∧ h'.get 2 = some (.cells 26 [D.int 15]) ∧ ordF c a (w :: l) = false))) g1 (by rw [lp]; rfl) (by rw [hL]; rfl) ?_
  · obtain ⟨x, h', hx, ⟨q1, q2, q3, q4, q5, q6⟩, e⟩ := key
    refine ⟨x.code.isNone, h'.set K (some (.loop (L.over x))), e, by simp; omega, q2.set _ (by omega), fun p cs h1 h2 => ?_, ?_⟩
    · have hp : p < h.next := by
        apply Decidable.byContradiction
        intro hn
        have := Heap.raw_of_get h2
        rw [hf p (by omega)] at this
        cases this
      rw [Heap.get_set, if_neg (by omega)]
      unfold Heap.get at h2 ⊢
      rw [q3 p h1 hp]
      exact h2
    rcases q6 with ⟨rfl, j1, j2⟩ | ⟨rfl, j1, j2⟩
    · refine ⟨?_, ?_, ?_, ?_, by rw [g5, j2]⟩
      · rw [Heap.get_set, if_pos rfl, hL]; rfl
      · rw [Heap.get_set, if_neg (by omega), q4]; exact g2'
      · rw [Heap.get_set, if_neg (by omega), j1]
      · rw [Heap.get_set, if_neg (by omega), q5]
    · refine ⟨⟨L.over .ret, by rw [Heap.get_set, if_pos rfl], rfl, rfl⟩, ?_, ?_, by rw [g5, j2]⟩
      · rw [Heap.get_set, if_neg (by omega), j1]
      · rw [Heap.get_set, if_neg (by omega), q5]
  · by_cases hk1 : w.k = 1
    · have hk1' : (w.k == 1) = true := by simp [hk1]
      by_cases hle : markF c w.n ≤ a
      · simp [le, lp, la, lb, k40l0, k40l1, x1, x2, g1, g2, g3, g4, X.hl, rowD, D.cells, D.one, hfr, Nat.add_assoc, ne1, ne2, ne5, ne6, ne7, ne8, ne9, ne10, hm, hk1', hle]
        refine ⟨rfl, ?_, ?_, ?_⟩
        · repeat' first | exact hf | apply Heap.Fr.bump | apply Heap.Fr.set
          all_goals (simp <;> omega)
        · intro k h1 h2
          repeat rw [if_neg (by omega)]
        · simp [ordF, hk1, hle]
      · simp [le, lp, la, lb, k40l0, k40l1, x1, g1, g2, g3, g4, X.hl, rowD, D.cells, D.one, hfr, Nat.add_assoc, ne1, ne2, ne5, ne6, ne8, ne10, hm, hk1', hle]
        refine ⟨rfl, ?_, ?_, ?_⟩
        · repeat' first | exact hf | apply Heap.Fr.bump | apply Heap.Fr.set
          all_goals (simp <;> omega)
        · intro k h1 h2
          repeat rw [if_neg (by omega)]
        · simp [ordF, nextA, hk1, hle]
    · have hk1' : (w.k == 1) = false := by simp [hk1]
      simp [le, lp, la, lb, k40l0, k40l1, g1, g2, g3, g4, X.hl, rowD, D.cells, D.one, hfr, Nat.add_assoc, ne1, ne2, ne5, ne6, ne8, ne10, hk1']
      refine ⟨rfl, ?_, ?_, ?_⟩
      · repeat' first | exact hf | apply Heap.Fr.bump | apply Heap.Fr.set
        all_goals (simp <;> omega)
      · intro k h1 h2
        repeat rw [if_neg (by omega)]
      · simp [ordF, nextA, hk1]
end Go.Proofs.YtomiigdpggeacaaDoor
/- Whether a sheet is valid: the whole function. -/
namespace Go.Proofs.YtomiigdpggeacaaDoor
open Go Go.Em
set_option maxRecDepth 100000
theorem sheet_canon (i r c : Int) (l : List Rw) : D.canonL [D.agg (sheetC i r c l)] = true := by
  simp [sheetC, rowsD, canonL_map rowD (fun _ => rfl) l]
theorem rows_canon (l : List Rw) : D.canonL [rowsD l] = true := by
  simp [rowsD, canonL_map rowD (fun _ => rfl) l]
theorem below_run {n : Nat} (hn : 1 ≤ n) (i r c : Int) (l : List Rw) : pureCall (rc pg n) 61 [D.agg (sheetC i r c l)] = some (.ret (.fn (.func 88) [] [.eref (sheetC i r c l)])) := by
  obtain ⟨m, rfl, e⟩ := body (pg := pg) (f := 61) (args := [D.agg (sheetC i r c l)]) (show 0 < n by omega) rfl rfl
  rw [e]
  have he := fun h n => rows_each h n l
  simp [k61, Env.v_ini, sheetC, rowsD, D.cells, D.one, he]
theorem len_of_ok {l : List Rw} (h : (natsF l).2 = 0) : l.length ≤ 400 := by
  unfold natsF at h
  split at h
  · simp at h
  · omega
/-- What the loop over the rows leaves. -/
def CP (c : Int) (l : List Rw) (x : Ex) (s : St) : Prop := ∃ (X : Env 48) (h : Heap), s = ⟨X.l, h, [.mark 240]⟩ ∧ X.v 2 = .ptr 2 0 ∧ h.get 240 = some .mark ∧
  ((x = .normal ∧ h.get 2 = some (.cells 26 [D.int 0]) ∧ ordF c (-1) l = true) ∨ (x = .ret ∧ h.get 2 = some (.cells 26 [D.int 15]) ∧ ordF c (-1) l = false))
theorem check_tail (X : Env 48) (h0 : Heap) (i r c : Int) (l : List Rw) (hl : l.length ≤ 400) (hnext : h0.next = 240) (hf : h0.Fr) (g1 : h0.get 1 = some (.cells 25 (sheetC i r c l))) (g2 : h0.get 2 = some (.cells 26 [D.int 0]))
    (x1 : X.v 1 = .ptr 1 0) (x2 : X.v 2 = .ptr 2 0) (x33 : X.v 33 = .fn (.func 88) [] [.eref (sheetC i r c l)]) {m : Nat} (hn : l.length + 10 ≤ m) :
    Res (Cd.ev ⟨pg, 48, none⟩ (rc pg m) (.rangeF (.s 33) [34, 35] k40l0 k40l1) { e := X.l, h := h0, df := [] }) (CP c l) := by
  refine Res.rangeF rfl (f := 88) (fs := []) (cs := [.eref (sheetC i r c l)]) x33 hf ?_
  obtain ⟨H, hH⟩ : ∃ H, H = (((h0.bump 2).set h0.next (some .mark)).set (h0.next + 1) (some (.loop (CL X h0.next)))) := ⟨_, rfl⟩
  have hJ : CJ X 241 240 i r c l l (-1) H := by
    refine ⟨?_, ?_, ?_, ?_, rfl⟩
    · rw [hH, hnext]; simp
    · rw [hH, hnext]; simp [g1]
    · rw [hH, hnext]; simp [g2]
    · rw [hH, hnext]; simp
  have hHf : H.Fr := by
    rw [hH]
    refine ((hf.bump 2).set _ ?_).set _ ?_ <;> simp
  obtain ⟨d, h3, e, hz⟩ := iter_run (check_iter X 241 240 (by omega) rfl i r c l x1 x2) i r l hl hJ hHf (by rw [hH]; simp [hnext]) (n := m) (by omega)
  rw [hH, hnext] at e
  rcases hz with ⟨a, j1, j2, j3, j4, j5⟩ | ⟨⟨q, j1, j2, j3⟩, j4, j5, j6⟩
  · refine ⟨d, h3, CL X 240, by rw [hnext]; exact e, by rw [hnext]; exact j1, (show LoopState.ready ≠ LoopState.busy by decide), rfl, X, _, by rw [hnext], x2, ?_, .inl ⟨rfl, ?_, j5⟩⟩
    · rw [Heap.get_set, if_neg (by omega)]; exact j4
    · rw [Heap.get_set, if_neg (by omega)]; exact j3
  · refine ⟨d, h3, q, by rw [hnext]; exact e, by rw [hnext]; exact j1, by rw [j2]; decide, by rw [j3]; rfl, X, _, by rw [hnext], x2, ?_, .inr ⟨j3, ?_, j6⟩⟩
    · rw [Heap.get_set, if_neg (by omega)]; exact j5
    · rw [Heap.get_set, if_neg (by omega)]; exact j4
set_option maxHeartbeats 1000000 in
theorem check_run (i r c : Int) (l : List Rw) {n : Nat} (hn : l.length + 20 ≤ n) : pureCall (rc pg n) 40 [D.agg (sheetC i r c l)] = some (.ret (D.int (chkF i r c l))) := by
  obtain ⟨m, rfl, e⟩ := body (pg := pg) (f := 40) (args := [D.agg (sheetC i r c l)]) (show 0 < n by omega) rfl rfl
  rw [e]
  have hw := fun a lo hi h => call_of (h := h) (pg := pg) (f := 69) rfl rfl (@in_run m (by omega) a lo hi)
  have hnat := fun h => call_of (h := h) (pg := pg) (f := 62) rfl (rows_canon l) (@natures_run l m (by omega))
  have hbel := fun h => call_of (h := h) (pg := pg) (f := 61) rfl (sheet_canon i r c l) (@below_run m (by omega) i r c l)
  simp only [rowsD] at hnat
  simp only [sheetC, rowsD] at hbel
  by_cases h1 : inB i 1 99999 = true
  · by_cases h2 : inB r 1 99 = true
    · by_cases h3 : inB c 0 31 = true
      · by_cases h4 : (natsF l).2 = 0
        · simp [k40, Env.v_ini, sheetC, rowsD, D.cells, D.one, hw, h1, h2, h3, hnat, h4, hbel]
          refine Res.endsAfter (check_tail _ _ i r c l (len_of_ok h4) (by simp) ?_ (by simp [sheetC, rowsD]) (by simp) (by simp) (by simp) (by simp [sheetC, rowsD]) (by omega)) ?_
          · repeat' first | exact Heap.Fr.empty | apply Heap.Fr.bump | apply Heap.Fr.set
            all_goals simp
          rintro x s ⟨X, h, rfl, x2, hg, ⟨rfl, h5, h6⟩ | ⟨rfl, h5, h6⟩⟩
          · simp [x2, hg, h5, chkF, h1, h2, h3, h4, h6, D.cells, D.one]
          · simp [x2, hg, h5, chkF, h1, h2, h3, h4, h6]
        · have h4' : ((natsF l).2 != 0) = true := by simpa using h4
          simp [k40, Env.v_ini, sheetC, rowsD, D.cells, D.one, hw, h1, h2, h3, hnat, h4', h4, chkF]
      · simp [k40, Env.v_ini, sheetC, rowsD, D.cells, D.one, hw, h1, h2, h3, chkF]
    · simp [k40, Env.v_ini, sheetC, rowsD, D.cells, D.one, hw, h1, h2, chkF]
  · simp [k40, Env.v_ini, sheetC, rowsD, D.cells, D.one, hw, h1, chkF]
end Go.Proofs.YtomiigdpggeacaaDoor
