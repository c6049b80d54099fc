/- The marks of a sheet, by the document. -/
import Derived.Test.YtomiigdpggeacaaDoorRef
namespace Go.Proofs.YtomiigdpggeacaaDoor
open Go Go.Em
set_option maxRecDepth 100000
def MI (sc : List D) (c : Int) (l : List Rw) (k : Nat) (s : St) : Prop := ∃ (x : Env 35) (h : Heap) (i : Nat) (d : D), s = ⟨x.l, h, []⟩ ∧ i + k = l.length ∧ h.get 1 = some (.cells 25 sc) ∧ x.v 1 = .ptr 1 0 ∧ x.v 4 = D.int i ∧ x.v 3 = d ∧ Gl h d (marksF c (l.take i)) ∧ h.Fr ∧ 1 < h.next
def MQ (sc : List D) (c : Int) (l : List Rw) (x : Ex) (s : St) : Prop := x = .exit 0 ∧ MI sc c l 0 s
set_option maxHeartbeats 1000000 in
theorem rmarks_round (i0 r0 c : Int) (l : List Rw) (hl : l.length ≤ 400) : ∀ n, 3 ≤ n → ∀ k s, MI (sheetC i0 r0 c l) c l k s → Res (k86l0.ev ⟨pg, 35, none⟩ (rc pg n) s) (Rnd (MI (sheetC i0 r0 c l) c l) (MQ (sheetC i0 r0 c l) c l) k) := by
  rintro n hn k s ⟨x, h, i, d, rfl, hik, hg, v1, v4, v3, hd, hf, h1⟩
  simp only [sheetC, rowsD] at hg
  have hfr : ∀ j, h.raw (h.next + j) = none := fun j => hf _ (by omega)
  have ne3 : ∀ j, (1 = h.next + j) = False := fun j => by simp <;> omega
  by_cases hlt : i < l.length
  · obtain ⟨r, hr⟩ : ∃ r, l[i] = r := ⟨l[i], rfl⟩
    have htake : l.take (i + 1) = l.take i ++ [r] := by rw [List.take_add_one, List.getElem?_eq_getElem hlt, hr]; rfl
    have hw1 : IntKind.i64.wrap ((i : Int) + 1) = (i : Int) + 1 := wrap_i64 (by omega) (by omega)
    have hm := @rmark_run n (by omega)
    have s1 : pg.sh 106 = false := rfl
    have hms := marks_snoc c (l.take i) r
    rw [← htake] at hms
    by_cases hk1 : r.k = 1
    · have hk1' : (r.k == 1) = true := by simp [hk1]
      rw [if_pos hk1] at hms
      rcases hd with ⟨hl0, rfl⟩ | ⟨k1, rfl, hg1, hk2, hk3⟩
      · simp [k86l0, v1, v4, v3, hg, hlt, hr, rowD, D.cells, D.one, hk1', hw1, dcore_f, s1, hm, zerosD, hfr, Nat.add_assoc, apK_some, room, maxLen]
        refine ⟨k - 1, by omega, _, _, i + 1, .slr (h.next + 103) 0 1 1 none, rfl, by omega, by simp [hg, sheetC, rowsD], by simp [v1], by simp, by simp, .inr ⟨h.next + 103, by simp [hms, hl0], by simp [hms, hl0], by simp <;> omega, by omega⟩, ?_, by simp <;> omega⟩
        repeat' first | exact hf | apply Heap.Fr.bump | apply Heap.Fr.set
        all_goals (simp <;> omega)
      · have e1 : ∀ j, (k1 = h.next + j) = False := fun j => by simp <;> omega
        have e2 : ∀ j, (h.next + j = k1) = False := fun j => by simp <;> omega
        have e3 : (1 = k1) = False := by simp <;> omega
        have hl1 := marks_len c (l.take i)
        rw [List.length_take] at hl1
        have happ := fun t hh news => appS_none (t := t) (et := 3) (sz := 1) (bytes := 8) (h := hh) (m := 1) (news := news) (k := k1) (n := (marksF c (l.take i)).length) (cs := (marksF c (l.take i)).map D.int) (by simp) (by omega) (by unfold room; omega) (by unfold maxLen; omega)
        simp [k86l0, v1, v4, v3, hg, hlt, hr, rowD, D.cells, D.one, hk1', hw1, dcore_f, s1, hm, zerosD, hfr, Nat.add_assoc, apK_some, hg1, e1, e2, happ]
        refine ⟨k - 1, by omega, _, _, i + 1, .slr (h.next + 103) 0 ((marksF c (l.take i)).length + 1) 1 none, rfl, by omega, by simp [hg, sheetC, rowsD, e3], by simp [v1], by simp, by simp, .inr ⟨h.next + 103, by simp [hms], by simp [hms], by simp <;> omega, by omega⟩, ?_, by simp <;> omega⟩
        repeat' first | exact hf | apply Heap.Fr.bump | apply Heap.Fr.set
        all_goals (simp <;> omega)
    · have hk1' : (r.k == 1) = false := by simp [hk1]
      rw [if_neg hk1, List.append_nil] at hms
      simp [k86l0, v1, v4, hg, hlt, hr, rowD, D.cells, hk1', hw1]
      refine ⟨k - 1, by omega, _, _, i + 1, d, rfl, by omega, by simp [hg, sheetC, rowsD], by simp [v1], by simp, by simp [v3], ?_, ((hf.bump 35).bump 35).bump 35, by simp <;> omega⟩
      rw [hms]
      rcases hd with ⟨hl0, rfl⟩ | ⟨k1, rfl, hg1, hk2, hk3⟩
      · exact .inl ⟨hl0, rfl⟩
      · exact .inr ⟨k1, rfl, by simpa using hg1, by simp <;> omega, hk3⟩
  · simp [k86l0, v1, v4, hg, hlt]
    have hi : i = l.length := by omega
    refine ⟨rfl, _, _, i, d, rfl, by omega, by simp [hg, sheetC, rowsD], by simp [v1], by simp [v4], by simp [v3], ?_, hf.bump 35, by simp <;> omega⟩
    rcases hd with ⟨hl0, rfl⟩ | ⟨k1, rfl, hg1, hk2, hk3⟩
    · exact .inl ⟨hl0, rfl⟩
    · exact .inr ⟨k1, rfl, by simpa using hg1, by simp <;> omega, hk3⟩
/-- A grown list, frozen. -/
theorem Gl.frozen {h : Heap} {d : D} {l : List Int} (g : Gl h d l) (n : Nat) : ∃ ks, frz h (n + 2) d = some (.sl false (l.map D.int), ks) := by
  rcases g with ⟨rfl, rfl⟩ | ⟨k, rfl, hg, _, _⟩
  · exact ⟨[], frz_nil⟩
  · have hch : ∀ l : List Int, chunk 1 l.length (l.map D.int) = l.map D.int := by
      intro l
      induction l with
      | nil => rfl
      | cons a l ih => rw [List.length_cons, List.map_cons, chunk, if_pos rfl]; simp only [List.getD_cons_zero, List.drop_succ_cons, List.drop_zero]; rw [ih]
    have htk : (l.map D.int).take l.length = l.map D.int := List.take_of_length_le (by simp)
    have hea := each_canon h n (l.map D.int) (canonL_map _ (fun _ => rfl) l)
    exact ⟨[k], by rw [frz_slr, hg, frzS_cells]; simp only [List.drop_zero, Nat.mul_one, htk, hea, Option.map_some, hch, List.length_map]; simp⟩
/-- A sheet's marks. -/
def shMarks (i r c : Int) (l : List Rw) : List Int := if chkF i r c l = 0 then marksF c l else []
theorem rmarks_run (i r c : Int) (l : List Rw) {n : Nat} (hn : l.length + 30 ≤ n) : pureCall (rc pg n) 86 [D.agg (sheetC i r c l)] = some (.ret (.sl false ((shMarks i r c l).map D.int))) := by
  obtain ⟨m, rfl, e⟩ := body (pg := pg) (f := 86) (args := [D.agg (sheetC i r c l)]) (show 0 < n by omega) rfl rfl
  rw [e]
  have hc := fun h => call_of (h := h) (pg := pg) (f := 45) rfl (sheet_canon i r c l) (@rcheck_run i r c l m (by omega))
  simp only [sheetC, rowsD] at hc
  by_cases h0 : chkF i r c l = 0
  · have hl : l.length ≤ 400 := by
      apply len_of_ok
      unfold chkF at h0
      split at h0
      · omega
      · split at h0
        · rename_i h1; exact absurd h0 h1
        · rename_i h1; simpa using h1
    simp [k86, Env.v_ini, sheetC, rowsD, D.cells, D.one, hc, h0, ev_loop]
    refine Res.endsAfter (P := MQ (sheetC i r c l) c l) (lp_rule 3 (MI (sheetC i r c l) c l) (MQ (sheetC i r c l) c l) (rmarks_round i r c l hl) l.length m _ (by omega)
      ⟨_, _, 0, .val (.slice none 0 0), rfl, by omega, by simp [sheetC, rowsD], by simp, by simp, by simp, .inl ⟨rfl, rfl⟩, ?_, by simp⟩) ?_
    · repeat' first | exact Heap.Fr.empty | apply Heap.Fr.bump | apply Heap.Fr.set
      all_goals simp
    rintro x s ⟨rfl, x, h, j, d, rfl, hj, hg, v1, v4, v3, hd, hf, h1⟩
    obtain rfl : j = l.length := by omega
    rw [List.take_length] at hd
    have hd' : Gl ((h.bump 35)) d (marksF c l) := by
      rcases hd with ⟨hl0, rfl⟩ | ⟨k1, rfl, hg1, hk2, hk3⟩
      · exact .inl ⟨hl0, rfl⟩
      · exact .inr ⟨k1, rfl, by simpa using hg1, by simp <;> omega, hk3⟩
    obtain ⟨ks, hfz⟩ := hd'.frozen 22
    simp [v3, shMarks, h0, hfz]
  · have h0' : (chkF i r c l != 0) = true := by simpa using h0
    simp [k86, Env.v_ini, sheetC, rowsD, D.cells, D.one, hc, h0', h0, shMarks]
end Go.Proofs.YtomiigdpggeacaaDoor
/- The marks of a sheet, by the program. -/
namespace Go.Proofs.YtomiigdpggeacaaDoor
open Go Go.Em
set_option maxRecDepth 100000
def ML (X : Env 25) (M : Nat) : Lp := ⟨X.l, [11, 12], k30l0, k30l1, M, .ready, .normal⟩
def MJ (X : Env 25) (K M b : Nat) (i r c : Int) (l0 : List Rw) (l : List Rw) (h : Heap) : Prop :=
  h.get K = some (.loop (ML X M)) ∧ h.get 1 = some (.cells 25 (sheetC i r c l0)) ∧ h.get M = some .mark ∧ ∃ d done, h.get b = some (.cells 48 [d]) ∧ done ++ l = l0 ∧ Gl h d (marksF c done)
theorem mark_pure {n : Nat} (hn : 2 ≤ n) (a b : Int) : pureCall (rc pg n) 37 [D.int a, D.int b] = some (.ret (D.int (markF a b))) := by
  obtain ⟨m, rfl, e⟩ := body (pg := pg) (f := 37) (args := [D.int a, D.int b]) (show 0 < n by omega) rfl rfl
  rw [e]
  have hw := @within_run m (by omega)
  by_cases h1 : 0 ≤ a <;> by_cases h2 : a ≤ 31 <;> by_cases h3 : 0 ≤ b <;> by_cases h4 : b ≤ 63 <;> simp [k37, Env.v_ini, hw, h1, h2, h3, h4, markF]
  rw [wrap_i64 (n := 64 * a) (by omega) (by omega), wrap_i64 (n := 64 * a + b) (by omega) (by omega), wrap_i64 (by omega) (by omega)]
theorem Gl.keep {h h' : Heap} {d : D} {l : List Int} (g : Gl h d l) (hn : h.next ≤ h'.next) (hk : ∀ k cs, h.get k = some (.cells 3 cs) → h'.get k = some (.cells 3 cs)) : Gl h' d l := by
  rcases g with ⟨rfl, rfl⟩ | ⟨k, rfl, hg, h1, h2⟩
  · exact .inl ⟨rfl, rfl⟩
  · exact .inr ⟨k, rfl, hk _ _ hg, by omega, h2⟩
theorem Fr_lt {h : Heap} (hf : h.Fr) {k : Nat} {B : Blk} (hg : h.get k = some B) : k < h.next := by
  apply Decidable.byContradiction
  intro hn
  have := Heap.raw_of_get hg
  rw [hf k (by omega)] at this
  cases this
set_option maxHeartbeats 1000000 in
theorem marks_iter (X : Env 25) (K M b : Nat) (hb : 1 < b) (hbM : b < M) (hK : K = M + 1) (i r c : Int) (l0 : List Rw) (hl0 : l0.length ≤ 400) (x1 : X.v 1 = .ptr 1 0) (x3 : X.v 3 = .ptr b 0) :
    IterH K (M + 2) c 6 (fun l _ h => MJ X K M b i r c l0 l h ∧ h.Fr) (fun _ => False) := by
  refine ⟨fun l a h h' ⟨⟨g1, g2, g3, d, done, g4, g5, g6⟩, gf⟩ hn g => ⟨⟨?_, ?_, ?_, d, done, ?_, g5, ?_⟩, g.fr gf⟩, ?_⟩
  · rw [g.get (by omega)]; exact g1
  · rw [g.get (by omega)]; exact g2
  · rw [g.get (by omega)]; exact g3
  · rw [g.get (by omega)]; exact g4
  · exact g6.keep g.next fun k cs hk => by rw [g.get (Fr_lt gf hk)]; exact hk
  rintro n hn w l a h ⟨⟨g1, g2, g3, d, done, g4, g5, g6⟩, _⟩ hf hn0
  obtain ⟨m, rfl⟩ := more_of (show 1 ≤ n by omega)
  have hm := @mark_run m (by omega)
  have hmp := fun a b => @mark_pure m (by omega) a b
  have s1 : pg.sh 37 = false := rfl
  have hfr : ∀ j, h.raw (h.next + j) = none := fun j => hf _ (by omega)
  have ne1 : ∀ j, (K = h.next + j) = False := fun j => by simp; omega
  have ne2 : ∀ j, (h.next + j = K) = False := fun j => by simp; omega
  have ne3 : ∀ j, (1 = h.next + j) = False := fun j => by simp; omega
  have ne4 : ∀ j, (b = h.next + j) = False := fun j => by simp; omega
  have ne4' : ∀ j, (h.next + j = b) = False := fun j => by simp; omega
  have ne5 : (1 = K) = False := by simp; omega
  have ne6 : (b = K) = False := by simp; omega
  have ne7 : (K = b) = False := by simp; omega
  have ne8 : (M = K) = False := by simp; omega
  have ne9 : (M = b) = False := by simp; omega
  have ne10 : ∀ j, (M = h.next + j) = False := fun j => by simp; omega
  have ne12 : (1 = b) = False := by simp; omega
  have g2' := g2
  simp only [sheetC] at g2
  obtain ⟨L, hL⟩ : ∃ L, L = ML X M := ⟨_, rfl⟩
  have le : L.e = X.l := by rw [hL]; rfl
  have lp : L.ps = [11, 12] := by rw [hL]; rfl
  have la : L.as = k30l0 := by rw [hL]; rfl
  have lb : L.bd = k30l1 := by rw [hL]; rfl
  rw [← hL] at g1
  have hms := marks_snoc c done w
  have key := @yl_rule pg m K h L [D.int a, rowD w] (fun x h' => x = .normal ∧ h.next ≤ h'.next ∧ h'.Fr ∧ (∀ p cs, M + 2 ≤ p → h.get p = some (.cells 71 cs) → h'.get p = some (.cells 71 cs)) ∧ h'.get 1 = h.get 1 ∧ h'.get M = some .mark ∧
    ∃ d', h'.get b = some (.cells 48 [d']) ∧ Gl h' d' (marksF c (done ++ [w])) ∧ h'.get K = some (.loop L.busy)) g1 (by rw [lp]; rfl) (by rw [hL]; rfl) ?_
  · obtain ⟨x, h', hx, ⟨rfl, q1, q2, q3, q4, q5, d', q6, q7, q8⟩, e⟩ := key
    refine ⟨true, h'.set K (some (.loop (L.over .normal))), e, by simp <;> omega, q2.set _ (by omega), fun p cs h1 h2 => ?_, ?_⟩
    · rw [Heap.get_set, if_neg (by omega)]
      exact q3 p cs h1 h2
    · refine ⟨⟨?_, ?_, ?_, d', done ++ [w], ?_, by simp [g5], q7.keep (by simp) fun k cs hk => ?_⟩, q2.set _ (by omega)⟩
      · rw [Heap.get_set, if_pos rfl, hL]; rfl
      · rw [Heap.get_set, if_neg (by omega), q4]; exact g2'
      · rw [Heap.get_set, if_neg (by omega), q5]
      · rw [Heap.get_set, if_neg (by omega), q6]
      · rw [Heap.get_set, if_neg (by rintro rfl; rw [q8] at hk; cases hk), hk]
  · by_cases hk1 : w.k = 1
    · have hk1' : (w.k == 1) = true := by simp [hk1]
      rw [if_pos hk1] at hms
      rcases g6 with ⟨hl, rfl⟩ | ⟨k1, rfl, hg1, hk2, hk3⟩
      · simp [le, lp, la, lb, k30l0, k30l1, x1, x3, g1, g2, g3, g4, X.hl, rowD, D.cells, D.one, hfr, Nat.add_assoc, ne1, ne2, ne4, ne5, ne6, ne7, ne8, ne9, ne10, ne12, hmp, hk1', dcore_f, s1, zerosD, apK_some, room, maxLen]
        refine ⟨rfl, ?_, fun p cs h1 h2 => ?_, .inr ⟨h.next + 73, by simp [hms, hl], by simp [hms, hl, ne4'], by simp <;> omega, by omega⟩⟩
        · repeat' first | exact hf | apply Heap.Fr.bump | apply Heap.Fr.set
          all_goals (simp <;> omega)
        · have hp := Fr_lt hf h2
          repeat rw [if_neg (by omega)]
          exact h2
      · have e1 : ∀ j, (k1 = h.next + j) = False := fun j => by simp; omega
        have e2 : ∀ j, (h.next + j = k1) = False := fun j => by simp; omega
        have e3 : (1 = k1) = False := by simp; omega
        have e4 : (k1 = K) = False := by simp; rintro rfl; rw [g1] at hg1; cases hg1
        have e4' : (K = k1) = False := by simp; rintro rfl; rw [g1] at hg1; cases hg1
        have e5 : (k1 = b) = False := by simp; rintro rfl; rw [g4] at hg1; cases hg1
        have e5' : (b = k1) = False := by simp; rintro rfl; rw [g4] at hg1; cases hg1
        have e6 : (M = k1) = False := by simp; rintro rfl; rw [g3] at hg1; cases hg1
        have hl1 := marks_len c done
        have hl2 : done.length ≤ 400 := by rw [← g5, List.length_append] at hl0; omega
        have happ := fun t hh news => appS_none (t := t) (et := 3) (sz := 1) (bytes := 8) (h := hh) (m := 1) (news := news) (k := k1) (n := (marksF c done).length) (cs := (marksF c done).map D.int) (by simp) (by omega) (by unfold room; omega) (by unfold maxLen; omega)
        simp [le, lp, la, lb, k30l0, k30l1, x1, x3, g1, g2, g3, g4, X.hl, rowD, D.cells, D.one, hfr, Nat.add_assoc, ne1, ne2, ne4, ne5, ne6, ne7, ne8, ne9, ne10, ne12, hmp, hk1', dcore_f, s1, zerosD, apK_some, hg1, e1, e2, e3, e4, e4', e5', e6, happ]
        refine ⟨rfl, ?_, fun p cs h1 h2 => ?_, .inr ⟨h.next + 73, by simp [hms], by simp [hms, ne4'], by simp <;> omega, by omega⟩⟩
        · repeat' first | exact hf | apply Heap.Fr.bump | apply Heap.Fr.set
          all_goals (simp <;> omega)
        · have hp := Fr_lt hf h2
          have hpk : p ≠ k1 := by rintro rfl; rw [hg1] at h2; cases h2
          repeat rw [if_neg (by omega)]
          exact h2
    · have hk1' : (w.k == 1) = false := by simp [hk1]
      rw [if_neg hk1, List.append_nil] at hms
      simp [le, lp, la, lb, k30l0, k30l1, g1, g2, g3, g4, X.hl, rowD, D.cells, D.one, hfr, Nat.add_assoc, ne1, ne2, ne4, ne5, ne6, ne8, ne10, hk1']
      refine ⟨rfl, ?_, fun p cs h1 h2 => ?_, ?_⟩
      · repeat' first | exact hf | apply Heap.Fr.bump | apply Heap.Fr.set
        all_goals (simp <;> omega)
      · have hp := Fr_lt hf h2
        repeat rw [if_neg (by omega)]
        exact h2
      · rw [hms]
        refine g6.keep (by simp <;> omega) fun k cs hk => ?_
        have hp := Fr_lt hf hk
        have hpk : k ≠ K := by rintro rfl; rw [g1] at hk; cases hk
        simp [hpk, show k ≠ h.next + 5 by omega, hk]
/-- What the loop over the rows leaves. -/
def MP (c : Int) (l : List Rw) (x : Ex) (s : St) : Prop := x = .normal ∧ ∃ (X : Env 25) (h : Heap) (d : D), s = ⟨X.l, h, [.mark 100]⟩ ∧ X.v 3 = .ptr 53 0 ∧ h.get 100 = some .mark ∧ h.get 53 = some (.cells 48 [d]) ∧ Gl h d (marksF c l)
theorem marks_tail (X : Env 25) (h0 : Heap) (i r c : Int) (l : List Rw) (hl : l.length ≤ 400) (hnext : h0.next = 100) (hf : h0.Fr) (g1 : h0.get 1 = some (.cells 25 (sheetC i r c l))) (g2 : h0.get 53 = some (.cells 48 [.val (.slice none 0 0)]))
    (x1 : X.v 1 = .ptr 1 0) (x3 : X.v 3 = .ptr 53 0) (x10 : X.v 10 = .fn (.func 88) [] [.eref (sheetC i r c l)]) {m : Nat} (hn : l.length + 10 ≤ m) :
    Res (Cd.ev ⟨pg, 25, none⟩ (rc pg m) (.rangeF (.s 10) [11, 12] k30l0 k30l1) { e := X.l, h := h0, df := [] }) (MP c l) := by
  refine Res.rangeF rfl (f := 88) (fs := []) (cs := [.eref (sheetC i r c l)]) x10 hf ?_
  obtain ⟨H, hH⟩ : ∃ H, H = (((h0.bump 2).set h0.next (some .mark)).set (h0.next + 1) (some (.loop (ML X h0.next)))) := ⟨_, rfl⟩
  have hHf : H.Fr := by
    rw [hH]
    refine ((hf.bump 2).set _ ?_).set _ ?_ <;> simp
  have hJ : MJ X 101 100 53 i r c l l H ∧ H.Fr := by
    refine ⟨⟨?_, ?_, ?_, .val (.slice none 0 0), [], ?_, rfl, .inl ⟨rfl, rfl⟩⟩, hHf⟩
    · rw [hH, hnext]; simp
    · rw [hH, hnext]; simp [g1]
    · rw [hH, hnext]; simp
    · rw [hH, hnext]; simp [g2]
  obtain ⟨d, h3, e, hz⟩ := iter_run (marks_iter X 101 100 53 (by omega) (by omega) rfl i r c l hl x1 x3) i r l hl hJ hHf (by rw [hH]; simp [hnext]) (n := m) (by omega)
  rw [hH, hnext] at e
  rcases hz with ⟨a, ⟨j1, j2, j3, d', done, j4, j5, j6⟩, j7⟩ | hz
  · rw [List.append_nil] at j5
    subst j5
    refine ⟨d, h3, ML X 100, by rw [hnext]; exact e, by rw [hnext]; exact j1, (show LoopState.ready ≠ LoopState.busy by decide), rfl, rfl, X, _, d', by rw [hnext], x3, ?_, ?_, ?_⟩
    · rw [Heap.get_set, if_neg (by omega)]; exact j3
    · rw [Heap.get_set, if_neg (by omega)]; exact j4
    · refine j6.keep (by simp) fun k cs hk => ?_
      rw [Heap.get_set, if_neg (by rintro rfl; rw [j1] at hk; cases hk), hk]
  · exact hz.elim
set_option maxHeartbeats 1000000 in
theorem marks_run (i r c : Int) (l : List Rw) {n : Nat} (hn : l.length + 30 ≤ n) : pureCall (rc pg n) 30 [D.agg (sheetC i r c l)] = some (.ret (.sl false ((shMarks i r c l).map D.int))) := by
  obtain ⟨m, rfl, e⟩ := body (pg := pg) (f := 30) (args := [D.agg (sheetC i r c l)]) (show 0 < n by omega) rfl rfl
  rw [e]
  have hc := fun h => call_of (h := h) (pg := pg) (f := 40) rfl (sheet_canon i r c l) (@check_run i r c l m (by omega))
  have hbel := fun h => call_of (h := h) (pg := pg) (f := 61) rfl (sheet_canon i r c l) (@below_run m (by omega) i r c l)
  simp only [sheetC, rowsD] at hc hbel
  by_cases h0 : chkF i r c l = 0
  · have hl : l.length ≤ 400 := by
      apply len_of_ok
      unfold chkF at h0
      split at h0
      · omega
      · split at h0
        · rename_i h1; exact absurd h0 h1
        · rename_i h1; simpa using h1
    simp [k30, Env.v_ini, sheetC, rowsD, D.cells, D.one, hc, h0, hbel]
    refine Res.endsAfter (marks_tail _ _ i r c l hl (by simp) ?_ (by simp [sheetC, rowsD]) (by simp) (by simp) (by simp) (by simp [sheetC, rowsD]) (by omega)) ?_
    · repeat' first | exact Heap.Fr.empty | apply Heap.Fr.bump | apply Heap.Fr.set
      all_goals simp
    rintro x s ⟨rfl, X, h, d, rfl, x3, hg, hb, hd⟩
    have hd' : Gl ((h.bump 25).set 100 none) d (marksF c l) := hd.keep (by simp) fun k cs hk => by
      rw [Heap.get_set, if_neg (by rintro rfl; rw [hg] at hk; cases hk), Heap.get_bump']; exact hk
    obtain ⟨ks, hfz⟩ := hd'.frozen 22
    simp [x3, hb, hg, shMarks, h0, hfz]
  · have h0' : (chkF i r c l != 0) = true := by simpa using h0
    simp [k30, Env.v_ini, sheetC, rowsD, D.cells, D.one, hc, h0', h0, shMarks]
end Go.Proofs.YtomiigdpggeacaaDoor
