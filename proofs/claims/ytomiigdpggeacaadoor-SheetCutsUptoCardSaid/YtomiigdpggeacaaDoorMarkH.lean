/- The marks of a sheet, by the program, in its caller's heap. -/
import Derived.Test.YtomiigdpggeacaaDoorMarks
namespace Go.Proofs.YtomiigdpggeacaaDoor
open Go Go.Em
set_option maxRecDepth 100000
/-- A list of numbers that grows by append, behind a heap's end. -/
def Gb (B : Nat) (h : Heap) (d : D) (l : List Int) : Prop := (l = [] ∧ d = .val (.slice none 0 0)) ∨ ∃ k, d = .slr k 0 l.length 1 none ∧ h.get k = some (.cells 3 (l.map D.int)) ∧ k < h.next ∧ B ≤ k
theorem Gb.keep {B : Nat} {h h' : Heap} {d : D} {l : List Int} (g : Gb B h d l) (hn : h.next ≤ h'.next) (hk : ∀ k cs, h.get k = some (.cells 3 cs) → h'.get k = some (.cells 3 cs)) : Gb B h' d l := by
  rcases g with ⟨rfl, rfl⟩ | ⟨k, rfl, hg, h1, h2⟩
  · exact .inl ⟨rfl, rfl⟩
  · exact .inr ⟨k, rfl, hk _ _ hg, by omega, h2⟩
/-- What stood below stands as it did. -/
def Un (B : Nat) (h0 h : Heap) : Prop := ∀ k, k < B → h.raw k = h0.raw k
def MJh (h0 : Heap) (X : Env 25) (A K M b : Nat) (i r c : Int) (l0 : List Rw) (l : List Rw) (h : Heap) : Prop :=
  h.get K = some (.loop (ML X M)) ∧ h.get A = some (.cells 25 (sheetC i r c l0)) ∧ h.get M = some .mark ∧ ∃ d done, h.get b = some (.cells 48 [d]) ∧ done ++ l = l0 ∧ Gb A h d (marksF c done) ∧ Un A h0 h
theorem len_of_chk {i r c : Int} {l : List Rw} (h0 : chkF i r c l = 0) : l.length ≤ 400 := by
  apply len_of_ok
  unfold chkF at h0
  split at h0
  · omega
  · split at h0
    · rename_i h1; exact absurd h0 h1
    · rename_i h1; simpa using h1
set_option maxHeartbeats 1000000 in
theorem marksh_iter (hb0 : Heap) (X : Env 25) (A K M b : Nat) (hb : A < b) (hbM : b < M) (hK : K = M + 1) (i r c : Int) (l0 : List Rw) (hl0 : l0.length ≤ 400) (x1 : X.v 1 = .ptr A 0) (x3 : X.v 3 = .ptr b 0) :
    IterH K (M + 2) c 6 (fun l _ h => MJh hb0 X A K M b i r c l0 l h ∧ h.Fr) (fun _ => False) := by
  refine ⟨fun l a h h' ⟨⟨g1, g2, g3, d, done, g4, g5, g6, g7⟩, gf⟩ hn g => ⟨⟨?_, ?_, ?_, d, done, ?_, g5, ?_⟩, g.fr gf⟩, ?_⟩
  · rw [g.get (by omega)]; exact g1
  · rw [g.get (by omega)]; exact g2
  · rw [g.get (by omega)]; exact g3
  · rw [g.get (by omega)]; exact g4
  · exact ⟨g6.keep g.next fun k cs hk => by rw [g.get (Fr_lt gf hk)]; exact hk, fun k hk => by rw [g.raw k (by have := Fr_lt gf g2; omega)]; exact g7 k hk⟩
  rintro n hn w l a h ⟨⟨g1, g2, g3, d, done, g4, g5, g6, g7⟩, _⟩ hf hn0
  obtain ⟨m, rfl⟩ := more_of (show 1 ≤ n by omega)
  have hm := @mark_run m (by omega)
  have hmp := fun a b => @mark_pure m (by omega) a b
  have s1 : pg.sh 37 = false := rfl
  have hfr : ∀ j, h.raw (h.next + j) = none := fun j => hf _ (by omega)
  have ne1 : ∀ j, (K = h.next + j) = False := fun j => by simp; omega
  have ne2 : ∀ j, (h.next + j = K) = False := fun j => by simp; omega
  have ne3 : ∀ j, (A = h.next + j) = False := fun j => by simp; omega
  have ne4 : ∀ j, (b = h.next + j) = False := fun j => by simp; omega
  have ne4' : ∀ j, (h.next + j = b) = False := fun j => by simp; omega
  have ne5 : (A = K) = False := by simp; omega
  have ne6 : (b = K) = False := by simp; omega
  have ne7 : (K = b) = False := by simp; omega
  have ne8 : (M = K) = False := by simp; omega
  have ne9 : (M = b) = False := by simp; omega
  have ne10 : ∀ j, (M = h.next + j) = False := fun j => by simp; omega
  have ne12 : (A = b) = False := by simp; omega
  have g2' := g2
  have hAn := Fr_lt hf g2'
  simp only [sheetC] at g2
  obtain ⟨L, hL⟩ : ∃ L, L = ML X M := ⟨_, rfl⟩
  have le : L.e = X.l := by rw [hL]; rfl
  have lp : L.ps = [11, 12] := by rw [hL]; rfl
  have la : L.as = k30l0 := by rw [hL]; rfl
  have lb : L.bd = k30l1 := by rw [hL]; rfl
  rw [← hL] at g1
  have hms := marks_snoc c done w
  have key := @yl_rule pg m K h L [D.int a, rowD w] (fun x h' => x = .normal ∧ h.next ≤ h'.next ∧ h'.Fr ∧ (∀ p cs, M + 2 ≤ p → h.get p = some (.cells 71 cs) → h'.get p = some (.cells 71 cs)) ∧ h'.get A = h.get A ∧ h'.get M = some .mark ∧
    ∃ d', h'.get b = some (.cells 48 [d']) ∧ Gb A h' d' (marksF c (done ++ [w])) ∧ h'.get K = some (.loop L.busy) ∧ Un A hb0 h') g1 (by rw [lp]; rfl) (by rw [hL]; rfl) ?_
  · obtain ⟨x, h', hx, ⟨rfl, q1, q2, q3, q4, q5, d', q6, q7, q8, q9⟩, e⟩ := key
    refine ⟨true, h'.set K (some (.loop (L.over .normal))), e, by simp <;> omega, q2.set _ (by omega), fun p cs h1 h2 => ?_, ?_⟩
    · rw [Heap.get_set, if_neg (by omega)]
      exact q3 p cs h1 h2
    · refine ⟨⟨?_, ?_, ?_, d', done ++ [w], ?_, by simp [g5], q7.keep (by simp) fun k cs hk => ?_, fun k hk => by rw [Heap.raw_set_ne _ _ (by omega)]; exact q9 k hk⟩, q2.set _ (by omega)⟩
      · rw [Heap.get_set, if_pos rfl, hL]; rfl
      · rw [Heap.get_set, if_neg (by omega), q4]; exact g2'
      · rw [Heap.get_set, if_neg (by omega), q5]
      · rw [Heap.get_set, if_neg (by omega), q6]
      · rw [Heap.get_set, if_neg (by rintro rfl; rw [q8] at hk; cases hk), hk]
  · by_cases hk1 : w.k = 1
    · have hk1' : (w.k == 1) = true := by simp [hk1]
      rw [if_pos hk1] at hms
      rcases g6 with ⟨hl, rfl⟩ | ⟨k1, rfl, hg1, hk2, hk3⟩
      · simp [le, lp, la, lb, k30l0, k30l1, x1, x3, g1, g2, g3, g4, X.hl, rowD, D.cells, D.one, hfr, Nat.add_assoc, ne1, ne2, ne3, ne4, ne5, ne6, ne7, ne8, ne9, ne10, ne12, hmp, hk1', dcore_f, s1, zerosD, apK_some, room, maxLen]
        refine ⟨rfl, ?_, fun p cs h1 h2 => ?_, .inr ⟨h.next + 73, by simp [hms, hl], by simp [hms, hl, ne4'], by simp <;> omega, by omega⟩, ?_⟩
        · repeat' first | exact hf | apply Heap.Fr.bump | apply Heap.Fr.set
          all_goals (simp <;> omega)
        · have hp := Fr_lt hf h2
          repeat rw [if_neg (by omega)]
          exact h2
        · intro k hk
          have := g7 k hk
          simp only [Heap.raw_set, Heap.raw_bump']
          repeat rw [if_neg (by omega)]
          exact this
      · have e1 : ∀ j, (k1 = h.next + j) = False := fun j => by simp; omega
        have e2 : ∀ j, (h.next + j = k1) = False := fun j => by simp; omega
        have e3 : (A = k1) = False := by simp; rintro rfl; rw [g2] at hg1; cases hg1
        have e4 : (k1 = K) = False := by simp; rintro rfl; rw [g1] at hg1; cases hg1
        have e4' : (K = k1) = False := by simp; rintro rfl; rw [g1] at hg1; cases hg1
        have e5 : (k1 = b) = False := by simp; rintro rfl; rw [g4] at hg1; cases hg1
        have e5' : (b = k1) = False := by simp; rintro rfl; rw [g4] at hg1; cases hg1
        have e6 : (M = k1) = False := by simp; rintro rfl; rw [g3] at hg1; cases hg1
        have hl1 := marks_len c done
        have hl2 : done.length ≤ 400 := by rw [← g5, List.length_append] at hl0; omega
        have happ := fun t hh news => appS_none (t := t) (et := 3) (sz := 1) (bytes := 8) (h := hh) (m := 1) (news := news) (k := k1) (n := (marksF c done).length) (cs := (marksF c done).map D.int) (by simp) (by omega) (by unfold room; omega) (by unfold maxLen; omega)
        simp [le, lp, la, lb, k30l0, k30l1, x1, x3, g1, g2, g3, g4, X.hl, rowD, D.cells, D.one, hfr, Nat.add_assoc, ne1, ne2, ne3, ne4, ne5, ne6, ne7, ne8, ne9, ne10, ne12, hmp, hk1', dcore_f, s1, zerosD, apK_some, hg1, e1, e2, e3, e4, e4', e5', e6, happ]
        refine ⟨rfl, ?_, fun p cs h1 h2 => ?_, .inr ⟨h.next + 73, by simp [hms], by simp [hms, ne4'], by simp <;> omega, by omega⟩, ?_⟩
        · repeat' first | exact hf | apply Heap.Fr.bump | apply Heap.Fr.set
          all_goals (simp <;> omega)
        · have hp := Fr_lt hf h2
          have hpk : p ≠ k1 := by rintro rfl; rw [hg1] at h2; cases h2
          repeat rw [if_neg (by omega)]
          exact h2
        · intro k hk
          have := g7 k hk
          simp only [Heap.raw_set, Heap.raw_bump']
          repeat rw [if_neg (by omega)]
          exact this
    · have hk1' : (w.k == 1) = false := by simp [hk1]
      rw [if_neg hk1, List.append_nil] at hms
      simp [le, lp, la, lb, k30l0, k30l1, g1, g2, g3, g4, X.hl, rowD, D.cells, D.one, hfr, Nat.add_assoc, ne1, ne2, ne3, ne4, ne5, ne6, ne8, ne10, hk1']
      refine ⟨rfl, ?_, fun p cs h1 h2 => ?_, ?_, ?_⟩
      · repeat' first | exact hf | apply Heap.Fr.bump | apply Heap.Fr.set
        all_goals (simp <;> omega)
      · have hp := Fr_lt hf h2
        repeat rw [if_neg (by omega)]
        exact h2
      · rw [hms]
        refine g6.keep (by simp <;> omega) fun k cs hk => ?_
        have hp := Fr_lt hf hk
        have hpk : k ≠ K := by rintro rfl; rw [g1] at hk; cases hk
        simp [hpk, show k ≠ h.next + 5 by omega, hk]
      · intro k hk
        have := g7 k hk
        simp only [Heap.raw_set, Heap.raw_bump']
        repeat rw [if_neg (by omega)]
        exact this
/-- What the loop over the rows leaves. -/
def MPh (hb0 : Heap) (A N b : Nat) (c : Int) (l : List Rw) (x : Ex) (s : St) : Prop := x = .normal ∧ ∃ (X : Env 25) (h : Heap) (d : D), s = ⟨X.l, h, [.mark N]⟩ ∧ X.v 3 = .ptr b 0 ∧ h.get N = some .mark ∧ h.get b = some (.cells 48 [d]) ∧ Gb A h d (marksF c l) ∧ Un A hb0 h ∧ h.Fr ∧ N < h.next
theorem marksh_tail (hb0 : Heap) (X : Env 25) (h0 : Heap) (A b N : Nat) (hAb : A < b) (hbN : b < N) (i r c : Int) (l : List Rw) (hl : l.length ≤ 400) (hnext : h0.next = N) (hf : h0.Fr) (g1 : h0.get A = some (.cells 25 (sheetC i r c l))) (g2 : h0.get b = some (.cells 48 [.val (.slice none 0 0)])) (hu : Un A hb0 h0)
    (x1 : X.v 1 = .ptr A 0) (x3 : X.v 3 = .ptr b 0) (x10 : X.v 10 = .fn (.func 88) [] [.eref (sheetC i r c l)]) {m : Nat} (hn : l.length + 10 ≤ m) :
    Res (Cd.ev ⟨pg, 25, none⟩ (rc pg m) (.rangeF (.s 10) [11, 12] k30l0 k30l1) { e := X.l, h := h0, df := [] }) (MPh hb0 A N b c l) := by
  refine Res.rangeF rfl (f := 88) (fs := []) (cs := [.eref (sheetC i r c l)]) x10 hf ?_
  obtain ⟨H, hH⟩ : ∃ H, H = (((h0.bump 2).set h0.next (some .mark)).set (h0.next + 1) (some (.loop (ML X h0.next)))) := ⟨_, rfl⟩
  have hHf : H.Fr := by
    rw [hH]
    refine ((hf.bump 2).set _ ?_).set _ ?_ <;> simp
  have hJ : MJh hb0 X A (N + 1) N b i r c l l H ∧ H.Fr := by
    refine ⟨⟨?_, ?_, ?_, .val (.slice none 0 0), [], ?_, rfl, .inl ⟨rfl, rfl⟩, fun k hk => ?_⟩, hHf⟩
    · rw [hH, hnext]; simp
    · rw [hH, hnext, Heap.get_set, if_neg (by omega), Heap.get_set, if_neg (by omega)]; simp [g1]
    · rw [hH, hnext]; simp
    · rw [hH, hnext, Heap.get_set, if_neg (by omega), Heap.get_set, if_neg (by omega)]; simp [g2]
    · rw [hH, hnext, Heap.raw_set_ne _ _ (by omega), Heap.raw_set_ne _ _ (by omega), Heap.raw_bump']; exact hu k hk
  obtain ⟨d, h3, e, hz⟩ := iter_run (marksh_iter hb0 X A (N + 1) N b hAb hbN rfl i r c l hl x1 x3) i r l hl hJ hHf (by rw [hH]; simp [hnext]) (n := m) (by omega)
  rw [hH, hnext] at e
  rcases hz with ⟨a, ⟨j1, j2, j3, d', done, j4, j5, j6, j7⟩, j8⟩ | hz
  · rw [List.append_nil] at j5
    subst j5
    have hK := Fr_lt j8 j1
    refine ⟨d, h3, ML X N, by rw [hnext]; exact e, by rw [hnext]; exact j1, (show LoopState.ready ≠ LoopState.busy by decide), rfl, rfl, X, _, d', by rw [hnext], x3, ?_, ?_, ?_, fun k hk => ?_, ?_, ?_⟩
    · rw [Heap.get_set, if_neg (by omega)]; exact j3
    · rw [Heap.get_set, if_neg (by omega)]; exact j4
    · refine j6.keep (by simp) fun k cs hk => ?_
      rw [Heap.get_set, if_neg (by rintro rfl; first | (rw [hnext, j1] at hk; cases hk) | (rw [j1] at hk; cases hk)), hk]
    · rw [Heap.raw_set_ne _ _ (by omega)]; exact j7 k hk
    · exact j8.set _ (by omega)
    · simp; omega
  · exact hz.elim
theorem endsInAfter {o : Option (Ex × St)} {id : Nat} {k : St → Option (Ex × St)} {R : Rc} {rs : List (ResultVar × Bool × Nat)} {P : Ex → St → Prop} {C : D → Heap → Prop} (h : Res o P)
    (hk : ∀ x s, P x s → ∃ d h', endH R rs (andThen (blockK id (some (x, s))) k) = some (.ret d, h') ∧ C d h') : ∃ d h', endH R rs (andThen (blockK id o) k) = some (.ret d, h') ∧ C d h' := by
  obtain ⟨x, s, rfl, p⟩ := h; exact hk x s p
set_option maxHeartbeats 1000000 in
theorem marks_sh (i r c : Int) (l : List Rw) {h : Heap} (hf : h.Fr) {n : Nat} (hn : l.length + 30 ≤ n) :
    ∃ d h', (rc pg n).fn 30 [D.agg (sheetC i r c l)] h = some (.ret d, h') ∧ (Gb (h.next + 1) h' d (shMarks i r c l) ∧ Un (h.next + 1) h h' ∧ h'.Fr ∧ h.next ≤ h'.next) := by
  obtain ⟨m, rfl, e⟩ := fn_body (pg := pg) (f := 30) (args := [D.agg (sheetC i r c l)]) (h := h) (show 0 < n by omega) rfl rfl
  rw [e]
  have hc := fun h => call_of (h := h) (pg := pg) (f := 40) rfl (sheet_canon i r c l) (@check_run i r c l m (by omega))
  have hbel := fun h => call_of (h := h) (pg := pg) (f := 61) rfl (sheet_canon i r c l) (@below_run m (by omega) i r c l)
  have hfr : ∀ j, h.raw (h.next + j) = none := fun j => hf _ (by omega)
  simp only [sheetC, rowsD] at hc hbel
  by_cases h0 : chkF i r c l = 0
  · have hl := len_of_chk h0
    simp [k30, Env.v_ini, sheetC, rowsD, D.cells, D.one, hc, h0, hbel, hfr, Nat.add_assoc]
    refine endsInAfter (marksh_tail h _ _ (h.next + 1) (h.next + 53) (h.next + 100) (by omega) (by omega) i r c l hl (by simp [Nat.add_assoc]) ?_ (by simp [sheetC, rowsD]) (by simp) ?_ (by simp) (by simp) (by simp [sheetC, rowsD]) (by omega)) ?_
    · repeat' first | exact hf | apply Heap.Fr.bump | apply Heap.Fr.set
      all_goals (simp <;> omega)
    · intro k hk
      simp only [Heap.raw_set, Heap.raw_bump']
      repeat rw [if_neg (by omega)]
    rintro x s ⟨rfl, X, h', d, rfl, x3, hg, hb, hd, hu, hf', hN⟩
    refine ⟨d, (h'.bump 25).set (h.next + 100) none, by simp [x3, hb, hg], ?_, fun k hk => ?_, (hf'.bump 25).set _ (by simp; omega), by simp; omega⟩
    · unfold shMarks; rw [if_pos h0]
      exact hd.keep (by simp) fun k cs hk => by
        rw [Heap.get_set, if_neg (by rintro rfl; rw [hg] at hk; cases hk), Heap.get_bump']; exact hk
    · rw [Heap.raw_set_ne _ _ (by omega), Heap.raw_bump']; exact hu k hk
  · have h0' : (chkF i r c l != 0) = true := by simpa using h0
    simp [k30, Env.v_ini, sheetC, rowsD, D.cells, D.one, hc, h0', h0, shMarks, hfr, Nat.add_assoc]
    refine ⟨_, _, ⟨rfl, rfl⟩, .inl ⟨rfl, rfl⟩, fun k hk => ?_, ?_, by simp; omega⟩
    · simp only [Heap.raw_set, Heap.raw_bump']
      repeat rw [if_neg (by omega)]
    · repeat' first | exact hf | apply Heap.Fr.bump | apply Heap.Fr.set
      all_goals (simp <;> omega)
end Go.Proofs.YtomiigdpggeacaaDoor
