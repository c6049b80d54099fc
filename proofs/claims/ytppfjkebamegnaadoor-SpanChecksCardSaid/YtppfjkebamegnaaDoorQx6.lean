/- Parts, by the document: which marks are tied. -/
import Derived.Test.YtppfjkebamegnaaDoorQx1
import Derived.Test.YtppfjkebamegnaaDoorRm1
import Derived.Test.YtppfjkebamegnaaDoorPl
import Derived.Test.YtppfjkebamegnaaDoorBnd
namespace Go.Proofs.YtppfjkebamegnaaDoor
open Go Go.Em Go.Em.Net Go.Em.Tie
set_option maxRecDepth 100000
def updN (f : Nat → Nat) (i v : Nat) : Nat → Nat := fun j => if j = i then v else f j
theorem tie_upd (f : Nat → Nat) (a b : Nat) : updN (updN f a (min (f a) (f b))) b (min (f a) (f b)) = tie f (a, b) := by
  funext v
  unfold updN tie
  by_cases h1 : v = b
  · simp [h1]
  · by_cases h2 : v = a <;> simp [h1, h2]
def qR1 (l : List Clm) (f0 : Nat → Nat) (pb : Nat) (x0 : Env 104) (k : Nat) (s : St) : Prop := ∃ (x : Env 104) (h : Heap) (i : Nat), s = ⟨x.l, h, []⟩ ∧ i + k = l.length ∧ x.v 33 = x0.v 33 ∧ x.v 34 = x0.v 34 ∧ x.v 0 = clsD l ∧ x.v 3 = intsD (marksF l) ∧ x.v 4 = .slr pb 0 (marksF l).length 1 (some (marksF l).length) ∧ x.v 36 = clsD l ∧ x.v 37 = D.int l.length ∧ x.v 38 = D.int i ∧ h.get pb = some (.cells 3 (nCs (marksF l).length ((prsF (marksF l) (l.take i)).foldl tie f0))) ∧ pb < h.next ∧ h.Fr
set_option maxHeartbeats 16000000 in
theorem r1_round (l : List Clm) (h0 : chkF l = 0) (f0 : Nat → Nat) (pb : Nat) (x0 : Env 104) : ∀ n, 200 ≤ n → ∀ k s, qR1 l f0 pb x0 k s → Res (k36l1.ev ⟨pg, 104, none⟩ (rc pg n) s) (Rnd (qR1 l f0 pb x0) (fun x s => x = .exit 4 ∧ qR1 l f0 pb x0 0 s) k) := by
  rintro n hn k s ⟨x, h, i, rfl, hik, v33, v34, v0, v3, v4, v36, v37, v38, hg, npb, hf⟩
  simp only [clsD] at v36
  obtain ⟨hl1, hl2, hl3⟩ := chk_ok h0
  by_cases hi : i < l.length
  · obtain ⟨c, hc⟩ : ∃ c, l[i] = c := ⟨_, rfl⟩
    have hco : l[i]? = some c := by rw [List.getElem?_eq_getElem hi, hc]
    have hcm : c ∈ l := List.mem_of_getElem? hco
    have htk : l.take (i + 1) = l.take i ++ [c] := by rw [List.take_add_one, hco]; rfl
    have w1 : IntKind.i64.wrap ((i : Int) + 1) = (i : Int) + 1 := wrap_i64 (by omega) (by omega)
    have hfr : ∀ j, h.raw (h.next + j) = none := fun j => hf _ (by omega)
    have n1 : ∀ j, (pb = h.next + j) = False := fun j => by simp; omega
    have n3 : ∀ j, (h.next + j = pb) = False := fun j => by simp; omega
    have ma : c.a ∈ marksF l := (marks_mem l c.a).2 ⟨c, hcm, .inl rfl⟩
    have mb : c.b ∈ marksF l := (marks_mem l c.b).2 ⟨c, hcm, .inr rfl⟩
    have xa := index_place h0 ma (n := n) (by omega)
    have xb := index_place h0 mb (n := n) (by omega)
    obtain ⟨ha, _⟩ := place_at ma
    obtain ⟨hb, _⟩ := place_at mb
    have ca := fun h => call_of (h := h) (pg := pg) (f := 56) rfl (by simp [intsD, ints_canonL]) xa
    have cb := fun h => call_of (h := h) (pg := pg) (f := 56) rfl (by simp [intsD, ints_canonL]) xb
    obtain ⟨p, hp⟩ : ∃ p, p = placeF (marksF l) c.a := ⟨_, rfl⟩
    obtain ⟨q, hq⟩ : ∃ q, q = placeF (marksF l) c.b := ⟨_, rfl⟩
    rw [← hp] at ca ha
    rw [← hq] at cb hb
    obtain ⟨f, hfd⟩ : ∃ f, f = (prsF (marksF l) (l.take i)).foldl tie f0 := ⟨_, rfl⟩
    have hfs : (prsF (marksF l) (l.take (i + 1))).foldl tie f0 = tie f (p, q) := by
      rw [htk]; unfold prsF; rw [List.map_append, List.foldl_append]
      show tie (((l.take i).map _).foldl tie f0) _ = _
      rw [hfd, hp, hq]; rfl
    rw [← hfd] at hg
    obtain ⟨N, hN⟩ : ∃ N, N = (marksF l).length := ⟨_, rfl⟩
    rw [← hN] at ha hb hg v4 hl3
    obtain ⟨g, hgd⟩ : ∃ g, g = updN f p (min (f p) (f q)) := ⟨_, rfl⟩
    obtain ⟨B, hB⟩ : ∃ B, B = nCs N f := ⟨_, rfl⟩
    obtain ⟨C1, hC1⟩ : ∃ C, C = nCs N g := ⟨_, rfl⟩
    obtain ⟨C2, hC2⟩ : ∃ C, C = nCs N (tie f (p, q)) := ⟨_, rfl⟩
    rw [← hB] at hg
    have hBl : B.length = N := by rw [hB]; exact nCs_len _ _
    have hC1l : C1.length = N := by rw [hC1]; exact nCs_len _ _
    have a1 : B[p]? = some (D.int (f p)) := by rw [hB]; exact nCs_get ha
    have a2 : B[q]? = some (D.int (f q)) := by rw [hB]; exact nCs_get hb
    have a3 : C1[p]? = some (D.int (g p)) := by rw [hC1]; exact nCs_get ha
    have e1 : ∀ h' : p < B.length, B[p]'h' = D.int (f p) := fun h' => by have := List.getElem?_eq_getElem h'; rw [a1] at this; exact (Option.some.inj this).symm
    have e2 : ∀ h' : q < B.length, B[q]'h' = D.int (f q) := fun h' => by have := List.getElem?_eq_getElem h'; rw [a2] at this; exact (Option.some.inj this).symm
    have e3 : ∀ h' : p < C1.length, C1[p]'h' = D.int (g p) := fun h' => by have := List.getElem?_eq_getElem h'; rw [a3] at this; exact (Option.some.inj this).symm
    have a1' : B[p]?.getD D.junk = D.int (f p) := by rw [a1]; rfl
    have a2' : B[q]?.getD D.junk = D.int (f q) := by rw [a2]; rfl
    have a3' : C1[p]?.getD D.junk = D.int (g p) := by rw [a3]; rfl
    have hmi : min (f p : Int) (f q : Int) = ((min (f p) (f q) : Nat) : Int) := by omega
    have p1 : B.take p ++ D.int (min (f p : Int) (f q : Int)) :: B.drop (p + 1) = C1 := by
      rw [hmi, hB, nCs_put ha, hC1, hgd]; rfl
    have p2 : C1.take q ++ D.int ((g p : Nat) : Int) :: C1.drop (q + 1) = C2 := by
      have : g p = min (f p) (f q) := by rw [hgd]; unfold updN; simp
      rw [this, hC1, nCs_put hb, hC2, ← tie_upd, hgd]; rfl
    have l1 : p + 1 ≤ N := ha
    have l2 : q + 1 ≤ N := hb
    have hz : zerosD [.int .i64 0, .int .i64 0, .int .i64 0, .int .i64 0, .int .i64 0] 5 1 = [D.int 0, D.int 0, D.int 0, D.int 0, D.int 0] := rfl
    simp only [intsD] at v3 ca cb
    simp [k36l1, v3, v4, v36, v37, v38, hi, hc, clD, clC, hz, D.cells, D.one, hfr, Nat.add_assoc, n1, n3, w1, ca, cb, hg, hBl, hC1l, e1, e2, e3, a1, a2, a3, a1', a2', a3', ha, hb, l1, l2, p1, p2]
    refine ⟨k - 1, by omega, _, _, i + 1, rfl, by omega, by simp [v33], by simp [v34], by simp [v0], by simp [v3, intsD], by simp [v4, hN], by simp [v36, clsD], by simp [v37], by simp, ?_, by (simp <;> omega), ?_⟩
    · rw [hfs, ← hN, ← hC2]; simp [n1]
    · repeat' first | exact hf | apply Heap.Fr.bump | apply Heap.Fr.set
      all_goals (simp <;> omega)
  · simp [k36l1, v37, v38, hi]
    exact ⟨_, _, i, rfl, by omega, by simp [v33], by simp [v34], by simp [v0], by simp [v3], by simp [v4], by simp [v36, clsD], by simp [v37], by simp [v38], by simp [hg], by (simp <;> omega), hf.bump _⟩
end Go.Proofs.YtppfjkebamegnaaDoor
/- Parts, by the document: all rounds. -/
namespace Go.Proofs.YtppfjkebamegnaaDoor
open Go Go.Em Go.Em.Net Go.Em.Tie
set_option maxRecDepth 100000
def qD0 (l : List Clm) (pb : Nat) (k : Nat) (s : St) : Prop := ∃ (x : Env 104) (h : Heap) (r : Nat) (B : List D), s = ⟨x.l, h, []⟩ ∧ r + k = (marksF l).length ∧ x.v 0 = clsD l ∧ x.v 3 = intsD (marksF l) ∧ x.v 23 = D.int (marksF l).length ∧ x.v 24 = D.int r ∧ x.v 4 = .slr pb 0 (marksF l).length 1 (some (marksF l).length) ∧ h.get pb = some (.cells 3 B) ∧ B.length = (marksF l).length ∧ (∀ q, q < r → B[q]? = some (D.int (q : Int))) ∧ pb < h.next ∧ h.Fr
set_option maxHeartbeats 8000000 in
theorem qd0_round (l : List Clm) (hM : (marksF l).length ≤ 64) (pb : Nat) : ∀ n, 2 ≤ n → ∀ k s, qD0 l pb k s → Res (k36l0.ev ⟨pg, 104, none⟩ (rc pg n) s) (Rnd (qD0 l pb) (fun x s => x = .exit 0 ∧ qD0 l pb 0 s) k) := by
  rintro n hn k s ⟨x, h, r, B, rfl, hrk, v0, v3, v23, v24, v4, hfb, hBl, hB, npb, hf⟩
  by_cases hr : r < (marksF l).length
  · have w1 : IntKind.i64.wrap ((r : Int) + 1) = (r : Int) + 1 := wrap_i64 (by omega) (by omega)
    have l1 : r + 1 ≤ (marksF l).length := hr
    simp [k36l0, v23, v24, v4, hr, w1, hfb, hBl, D.cells, D.one, l1]
    refine ⟨k - 1, by omega, _, _, r + 1, _, rfl, by omega, by simp [v0], by simp [v3], by simp [v23], by simp, by simp [v4], by simp; rfl, by simp; omega, fun q hq => ?_, by (simp <;> omega), ?_⟩
    · by_cases e : q = r
      · subst e
        rw [List.getElem?_append_right (by simp; omega)]
        have : (List.take q B).length = q := by simp; omega
        rw [this, Nat.sub_self]; rfl
      · rw [List.getElem?_append_left (by simp; omega), List.getElem?_take, if_pos (by omega)]
        exact hB q (by omega)
    · repeat' first | exact hf | apply Heap.Fr.bump | apply Heap.Fr.set
      all_goals (simp <;> omega)
  · simp [k36l0, v23, v24, hr]
    exact ⟨_, _, r, B, rfl, by omega, by simp [v0], by simp [v3], by simp [v23], by simp [v24], by simp [v4], by simp [hfb], hBl, hB, by (simp <;> omega), hf.bump _⟩
def qD2 (l : List Clm) (pb : Nat) (k : Nat) (s : St) : Prop := ∃ (x : Env 104) (h : Heap) (r : Nat), s = ⟨x.l, h, []⟩ ∧ r + k = (marksF l).length ∧ x.v 0 = clsD l ∧ x.v 3 = intsD (marksF l) ∧ x.v 33 = D.int (marksF l).length ∧ x.v 34 = D.int r ∧ x.v 4 = .slr pb 0 (marksF l).length 1 (some (marksF l).length) ∧ h.get pb = some (.cells 3 (nCs (marksF l).length (tieN (prsF (marksF l) l) r))) ∧ pb < h.next ∧ h.Fr
set_option maxHeartbeats 8000000 in
theorem qd2_round (l : List Clm) (h0 : chkF l = 0) (pb : Nat) : ∀ n, 1100 ≤ n → ∀ k s, qD2 l pb k s → Res (k36l2.ev ⟨pg, 104, none⟩ (rc pg n) s) (Rnd (qD2 l pb) (fun x s => x = .exit 2 ∧ qD2 l pb 0 s) k) := by
  rintro n hn k s ⟨x, h, r, rfl, hrk, v0, v3, v33, v34, v4, hg, npb, hf⟩
  obtain ⟨hl1, _, hl3⟩ := chk_ok h0
  by_cases hr : r < (marksF l).length
  · have w1 : IntKind.i64.wrap ((r : Int) + 1) = (r : Int) + 1 := wrap_i64 (by omega) (by omega)
    have v0' := v0
    simp only [clsD] at v0'
    simp [k36l2, v33, v34, v0', hr, ev_loop]
    refine Res.qb (lp_rule 200 (qR1 l (tieN (prsF (marksF l) l) r) pb x) _ (r1_round l h0 (tieN (prsF (marksF l) l) r) pb x) l.length n _ (by omega) ⟨_, _, 0, rfl, by omega, by simp, by simp, by simp [v0], by simp [v3], by simp [v4], by simp [clsD], by simp, by simp, by simp [hg, prsF], by (simp <;> omega), (hf.bump _).bump _⟩) ?_
    rintro x1 s1 ⟨rfl, y, h1, i, rfl, hi, y33, y34, y0, y3, y4, y36, y37, y38, gg, mpb, hf1⟩
    have hil : i = l.length := by omega
    subst hil
    rw [List.take_length] at gg
    rw [v33] at y33
    rw [v34] at y34
    simp [y33, y34, w1]
    exact ⟨k - 1, by omega, _, _, r + 1, rfl, by omega, by simp [y0], by simp [y3], by simp [y33], by simp, by simp [y4], by simp [gg]; rfl, by (simp <;> omega), hf1.bump _⟩
  · simp [k36l2, v33, v34, hr]
    exact ⟨_, _, r, rfl, by omega, by simp [v0], by simp [v3], by simp [v33], by simp [v34], by simp [v4], by simp [hg], by (simp <;> omega), hf.bump _⟩
end Go.Proofs.YtppfjkebamegnaaDoor
/- Parts, by the document: one part. -/
namespace Go.Proofs.YtppfjkebamegnaaDoor
open Go Go.Em Go.Em.Net Go.Em.Tie
set_option maxRecDepth 100000
def qkp (q : Nat) : Prop := q = 3 ∨ q = 4 ∨ q = 10 ∨ q = 11 ∨ q = 72 ∨ q = 73
def qD3 (M : List Int) (f : Nat → Nat) (i tb : Nat) (hb : Heap) (x0 : Env 104) (k : Nat) (s : St) : Prop := ∃ (x : Env 104) (h : Heap) (j : Nat), s = ⟨x.l, h, []⟩ ∧ j + k = M.length ∧ (∀ q, qkp q → x.v q = x0.v q) ∧ x.v 77 = D.int M.length ∧ x.v 78 = D.int j ∧ IsPt (x.v 12) (ptF M f i j) hb h ∧ h.Fr ∧ Un hb h
theorem fr_slots2 {x y x0 : Env 104} (h : ∀ q, qkp q → x.v q = x0.v q) (e : y.v 3 = x.v 3 ∧ y.v 4 = x.v 4 ∧ y.v 10 = x.v 10 ∧ y.v 11 = x.v 11 ∧ y.v 72 = x.v 72 ∧ y.v 73 = x.v 73) : ∀ q, qkp q → y.v q = x0.v q := by
  obtain ⟨e1, e2, e3, e4, e5, e6⟩ := e
  intro q hq
  have := h q hq
  unfold qkp at hq
  rcases hq with rfl | rfl | rfl | rfl | rfl | rfl
  · rw [e1]; exact this
  · rw [e2]; exact this
  · rw [e3]; exact this
  · rw [e4]; exact this
  · rw [e5]; exact this
  · rw [e6]; exact this
set_option maxHeartbeats 8000000 in
theorem qd3_round (M : List Int) (hM : M.length ≤ 64) (f : Nat → Nat) (i tb : Nat) (hb : Heap) (x0 : Env 104) (z3 : x0.v 3 = intsD M) (z4 : x0.v 4 = .slr tb 0 M.length 1 (some M.length)) (z11 : x0.v 11 = D.int i) (hgb : hb.get tb = some (.cells 3 (nCs M.length f))) (htb : tb < hb.next) : ∀ n, 2 ≤ n → ∀ k s, qD3 M f i tb hb x0 k s → Res (k36l3.ev ⟨pg, 104, none⟩ (rc pg n) s) (Rnd (qD3 M f i tb hb x0) (fun x s => x = .exit 8 ∧ qD3 M f i tb hb x0 0 s) k) := by
  rintro n hn k s ⟨x, h, j, rfl, hjk, sm, v77, v78, hp, hf, hu1, hu2⟩
  have v3 := (sm 3 (by simp [qkp])).trans z3
  have v4 := (sm 4 (by simp [qkp])).trans z4
  have v11 := (sm 11 (by simp [qkp])).trans z11
  simp only [intsD] at v3
  have hg4 : h.get tb = some (.cells 3 (nCs M.length f)) := by rw [un_get ⟨hu1, hu2⟩ htb]; exact hgb
  by_cases hj : j < M.length
  · have w1 : IntKind.i64.wrap ((j : Int) + 1) = (j : Int) + 1 := wrap_i64 (by omega) (by omega)
    have hfr : ∀ j, h.raw (h.next + j) = none := fun j => hf _ (by omega)
    obtain ⟨a, ha⟩ : ∃ a, M[j] = a := ⟨_, rfl⟩
    have had : M.getD j 0 = a := by simp [List.getD, List.getElem?_eq_getElem hj, ha]
    have hst := pt_step M f i j
    have hlen := pt_len M f i j
    rw [had] at hst
    obtain ⟨B, hB⟩ : ∃ B, B = nCs M.length f := ⟨_, rfl⟩
    rw [← hB] at hg4
    have a1 : B[j]? = some (D.int (f j)) := by rw [hB]; exact nCs_get hj
    have hBl : B.length = M.length := by rw [hB]; exact nCs_len _ _
    have e1 : ∀ h' : j < B.length, B[j]'h' = D.int (f j) := fun h' => by have := List.getElem?_eq_getElem h'; rw [a1] at this; exact (Option.some.inj this).symm
    have a1' : B[j]?.getD D.junk = D.int (f j) := by rw [a1]; rfl
    have l1 : j + 1 ≤ M.length := hj
    have m2 : ∀ z, (tb = h.next + z) = False := fun z => by simp; omega
    have hz1 : zerosD [.int .i64 0] 1 1 = [D.int 0] := rfl
    by_cases hfj : f j = i
    · have hv : ((f j : Int) == (i : Int)) = true := by simp; omega
      rw [if_pos hfj] at hst
      rcases hp with ⟨hP, v12⟩ | ⟨hP, pb, v12, hg, hb1, hb2⟩
      · rw [hP, List.nil_append] at hst
        have r1 : 1 * 8 ≤ room ∧ 1 ≤ maxLen := by unfold room maxLen; omega
        simp [-beq_iff_eq, k36l3, v3, v4, v11, v12, v77, v78, hj, ha, hg4, a1, a1', e1, hBl, hv, w1, l1, D.cells, D.one, hfr, Nat.add_assoc, hz1, apK_some, r1]
        refine ⟨k - 1, by omega, _, _, j + 1, rfl, by omega, fr_slots2 sm (by simp), by simp [v77], by simp, .inr ⟨by rw [hst]; simp, h.next + 405, by rw [hst]; simp, by rw [hst]; simp, by omega, by (simp <;> omega)⟩, ?_, by (simp <;> omega), fun q hq => ?_⟩
        · repeat' first | exact hf | apply Heap.Fr.bump | apply Heap.Fr.set
          all_goals (simp <;> omega)
        · have e2 : ∀ z, (q = h.next + z) = False := fun z => by simp; omega
          simp [e2, hu2 q hq]
      · obtain ⟨p, hp⟩ : ∃ p, p = (ptF M f i j).length := ⟨_, rfl⟩
        obtain ⟨C, hC⟩ : ∃ C, C = (ptF M f i j).map D.int := ⟨_, rfl⟩
        have hCl : C.length = p * 1 := by rw [hC, List.length_map, hp]; omega
        rw [← hp] at v12 hlen
        rw [← hC] at hg
        have n1 : ∀ j, (pb = h.next + j) = False := fun j => by simp; omega
        have n2 : ∀ j, (h.next + j = pb) = False := fun j => by simp; omega
        have happ : ∀ (t : Nat) (h : Heap), appS t 3 1 8 h 1 [D.int a] pb 0 p 1 none (some (.cells 3 C)) = ((h.set pb none).alloc t (.cells 3 (C ++ [D.int a]))).map fun h => (.slr t 0 (p + 1) 1 none, h) := fun t h =>
          appS_none hCl (by omega) (by unfold room; omega) (by unfold maxLen; omega)
        simp [-beq_iff_eq, k36l3, v3, v4, v11, v12, v77, v78, hj, ha, hg4, a1, a1', e1, hBl, hv, w1, l1, D.cells, D.one, hfr, Nat.add_assoc, hz1, apK_some, n1, n2, hg, happ]
        refine ⟨k - 1, by omega, _, _, j + 1, rfl, by omega, fr_slots2 sm (by simp), by simp [v77], by simp, .inr ⟨by rw [hst]; simp, h.next + 405, by rw [hst, List.length_append, ← hp]; simp, by rw [hst, List.map_append, ← hC]; simp, by omega, by (simp <;> omega)⟩, ?_, by (simp <;> omega), fun q hq => ?_⟩
        · repeat' first | exact hf | apply Heap.Fr.bump | apply Heap.Fr.set
          all_goals (simp <;> omega)
        · have e2 : ∀ z, (q = h.next + z) = False := fun z => by simp; omega
          have e3 : (q = pb) = False := by simp; omega
          simp [e2, e3, hu2 q hq]
    · have hv : ((f j : Int) == (i : Int)) = false := by simp; omega
      rw [if_neg hfj, List.append_nil] at hst
      simp [-beq_iff_eq, -beq_eq_false_iff_ne, k36l3, v3, v4, v11, v77, v78, hj, ha, hg4, a1, a1', e1, hBl, hv, w1, l1, D.cells, D.one]
      exact ⟨k - 1, by omega, _, _, j + 1, rfl, by omega, fr_slots2 sm (by simp), by simp [v77], by simp, by
        rw [hst]
        rcases hp with ⟨hP, v12⟩ | ⟨hP, pb, v12, hg, hb1, hb2⟩
        · exact .inl ⟨hP, by simp [v12]⟩
        · exact .inr ⟨hP, pb, by simp [v12], by simp [hg], hb1, by (simp <;> omega)⟩, by repeat' first | exact hf | apply Heap.Fr.bump, by (simp <;> omega), fun q hq => by simp [hu2 q hq]⟩
  · simp [k36l3, v77, v78, hj]
    exact ⟨_, _, j, rfl, by omega, fr_slots2 sm (by simp), by simp [v77], by simp [v78], by
      rcases hp with ⟨hP, v12⟩ | ⟨hP, pb, v12, hg, hb1, hb2⟩
      · exact .inl ⟨hP, by simp [v12]⟩
      · exact .inr ⟨hP, pb, by simp [v12], by simp [hg], hb1, by (simp <;> omega)⟩, hf.bump _, by (simp <;> omega), fun q hq => by simp [hu2 q hq]⟩
end Go.Proofs.YtppfjkebamegnaaDoor
/- Parts, by the document: all parts. -/
namespace Go.Proofs.YtppfjkebamegnaaDoor
open Go Go.Em Go.Em.Net Go.Em.Tie
set_option maxRecDepth 100000
theorem pt_ne {M : List Int} {f : Nat → Nat} (hown : ∀ i j, f j = i → f i = i) {i : Nat} (hi : i < M.length) : ptF M f i M.length ≠ [] ↔ f i = i := by
  constructor
  · intro h
    obtain ⟨x, hx⟩ := List.exists_mem_of_ne_nil _ h
    unfold ptF at hx
    obtain ⟨t, ht, _⟩ := List.mem_map.1 hx
    have := (List.mem_filter.1 ht).2
    simp at this
    exact hown i t this
  · intro h h0
    have : M.getD i 0 ∈ ptF M f i M.length := by
      unfold ptF
      exact List.mem_map.2 ⟨i, List.mem_filter.2 ⟨List.mem_range.2 hi, by simp [h]⟩, rfl⟩
    rw [h0] at this; cases this
def qD4 (M : List Int) (f : Nat → Nat) (tb : Nat) (k : Nat) (s : St) : Prop := ∃ (x : Env 104) (h : Heap) (i : Nat), s = ⟨x.l, h, []⟩ ∧ i + k = M.length ∧ x.v 3 = intsD M ∧ x.v 4 = .slr tb 0 M.length 1 (some M.length) ∧ x.v 72 = D.int M.length ∧ x.v 73 = D.int i ∧ IsOut (x.v 10) (pasF M f i) h ∧ h.get tb = some (.cells 3 (nCs M.length f)) ∧ tb < h.next ∧ h.Fr
set_option maxHeartbeats 16000000 in
theorem qd4_round (M : List Int) (hM : M.length ≤ 64) (f : Nat → Nat) (hown : ∀ i j, f j = i → f i = i) (tb : Nat) : ∀ n, 200 ≤ n → ∀ k s, qD4 M f tb k s → Res (k36l4.ev ⟨pg, 104, none⟩ (rc pg n) s) (Rnd (qD4 M f tb) (fun x s => x = .exit 6 ∧ qD4 M f tb 0 s) k) := by
  rintro n hn k s ⟨x, h, i, rfl, hik, v3, v4, v72, v73, ho, hg, ntb, hf⟩
  by_cases hi : i < M.length
  · have w1 : IntKind.i64.wrap ((i : Int) + 1) = (i : Int) + 1 := wrap_i64 (by omega) (by omega)
    have hst := pas_step M f i
    have hlen := pas_len M f i
    have hpn := pt_ne hown hi
    have v3' := v3
    simp only [intsD] at v3'
    simp [k36l4, v3', v72, v73, hi, ev_loop]
    obtain ⟨x0, hx0⟩ : ∃ x0 : Env 104, x0 = ((((((((x.upd 74 (D.bool true)).upd 75 (D.int i)).upd 11 (D.int i)).upd 12 (.val (.slice none 0 0))).upd 76 (.sl false (M.map D.int))).upd 77 (D.int M.length)).upd 78 (D.int 0))) := ⟨_, rfl⟩
    obtain ⟨hb, hhb⟩ : ∃ hb, hb = (((h.bump 104).bump 104).bump 104).bump 104 := ⟨_, rfl⟩
    have uhb : Un h hb := by rw [hhb]; exact un_trans (un_trans (un_trans (un_bump _ 104) (un_bump _ 104)) (un_bump _ 104)) (un_bump _ 104)
    have hbf : hb.Fr := by rw [hhb]; exact (((hf.bump _).bump _).bump _).bump _
    have htb' : tb < hb.next := by have := uhb.1; omega
    refine Res.qe (lp_rule 2 (qD3 M f i tb hb x0) _ (qd3_round M hM f i tb hb x0 (by rw [hx0]; simp [v3]) (by rw [hx0]; simp [v4]) (by rw [hx0]; simp) (by rw [un_get uhb ntb]; exact hg) htb') M.length n _ (by omega) ⟨x0, hb, 0, by rw [hx0, hhb], by omega, fun _ _ => rfl, by rw [hx0]; simp, by rw [hx0]; simp, .inl ⟨rfl, by rw [hx0]; simp⟩, hbf, Nat.le_refl _, fun _ _ => rfl⟩) ?_
    rintro x1 s1 ⟨rfl, y, h1, j, rfl, hj, sm, y77, y78, hp, hf1, hu1, hu2⟩
    have hjM : j = M.length := by omega
    subst hjM
    have u1 : Un h h1 := un_trans uhb ⟨hu1, hu2⟩
    have y3 := sm 3 (by simp [qkp])
    have y4 := sm 4 (by simp [qkp])
    have y10 := sm 10 (by simp [qkp])
    have y72 := sm 72 (by simp [qkp])
    have y73 := sm 73 (by simp [qkp])
    rw [hx0] at y3 y4 y10 y72 y73
    simp [v3, v4, v72, v73] at y3 y4 y10 y72 y73
    have ho1 := ho.mono u1
    rw [← y10] at ho1
    have hg1 : h1.get tb = some (.cells 3 (nCs M.length f)) := by rw [un_get u1 ntb]; exact hg
    have ntb1 : tb < h1.next := by have := u1.1; omega
    rcases hp with ⟨hP, y12⟩ | ⟨hPne, pb, y12, hgp, hb1, hb2⟩
    · have hfi : ¬ f i = i := fun h => hpn.2 h hP
      rw [if_neg hfi, List.append_nil] at hst
      simp [y3, y4, y12, y72, y73, w1]
      refine ⟨k - 1, by omega, _, _, i + 1, rfl, by omega, by simp [y3], by simp [y4], by simp [y72], by simp, by rw [hst]; simpa using ho1.mono (un_trans (un_bump _ 104) (un_bump _ 104)), by simp [hg1], by (simp <;> omega), (hf1.bump _).bump _⟩
    · have hfi : f i = i := hpn.1 hPne
      rw [if_pos hfi] at hst
      have hpb : h.next ≤ pb := by have := uhb.1; omega
      obtain ⟨P, hPd⟩ : ∃ P, P = ptF M f i M.length := ⟨_, rfl⟩
      rw [← hPd] at y12 hgp hst hPne
      have hP0 : 0 < P.length := List.length_pos_iff.2 hPne
      have hP0' : (0 : Int) < (P.length : Int) := by omega
      have hfr : ∀ j, h1.raw (h1.next + j) = none := fun j => hf1 _ (by omega)
      have hz1 : zerosD [.slice none 0 0] 1 1 = [.val (.slice none 0 0)] := rfl
      have o1 : ∀ a b c d (e : Option Nat), D.one (.slr a b c d e) = true := fun _ _ _ _ _ => rfl
      have o2 : ∀ a b c d (e : Option Nat), D.cells (.slr a b c d e) = [.slr a b c d e] := fun _ _ _ _ _ => rfl
      have n1 : ∀ j, (pb = h1.next + j) = False := fun j => by simp; omega
      have n2 : ∀ j, (tb = h1.next + j) = False := fun j => by simp; omega
      rcases ho1 with ⟨hO, w5⟩ | ⟨hO, ob, rs, w5, hgo, nob, rw1⟩
      · have r1 : 1 * 24 ≤ room ∧ 1 ≤ maxLen := by unfold room maxLen; omega
        rw [hO, List.nil_append] at hst
        simp [y3, y4, w5, y12, y72, y73, w1, hP0, hP0', hPne, o1, o2, hfr, Nat.add_assoc, hz1, apK_some, r1]
        have e2 : ∀ q, q < h1.next → ∀ z, (q = h1.next + z) = False := fun q hq z => by simp; omega
        refine ⟨k - 1, by omega, _, _, i + 1, rfl, by omega, by simp [y3], by simp [y4], by simp [y72], by simp, .inr ⟨by rw [hst]; simp, h1.next + 205, [.slr pb 0 P.length 1 none], by rw [hst]; simp, by simp, by (simp <;> omega), ?_⟩, by simp [n2, hg1], by (simp <;> omega), ?_⟩
        · rw [hst]
          exact Rws.snoc (rs := []) (O := []) (ob := 0) (h := h1) (P := P) ⟨rfl, fun q x hx => by simp at hx⟩ (by omega) (fun q hq _ => by simp [e2 q hq]) (by (simp <;> omega)) (by simp [n1, hgp]) (by omega) (by (simp <;> omega))
        · repeat' first | exact hf1 | apply Heap.Fr.bump | apply Heap.Fr.set
          all_goals (simp <;> omega)
      · obtain ⟨q, hq⟩ : ∃ q, q = (pasF M f i).length := ⟨_, rfl⟩
        have hrl : rs.length = q * 1 := by rw [rw1.1, hq]; omega
        rw [← hq] at w5 hlen
        have n3 : ∀ j, (ob = h1.next + j) = False := fun j => by simp; omega
        have n4 : ∀ j, (h1.next + j = ob) = False := fun j => by simp; omega
        have happ : ∀ (t : Nat) (h : Heap) (z : D), appS t 31 1 24 h 1 [z] ob 0 q 1 none (some (.cells 31 rs)) = ((h.set ob none).alloc t (.cells 31 (rs ++ [z]))).map fun h => (.slr t 0 (q + 1) 1 none, h) := fun t h z =>
          appS_none hrl (by omega) (by unfold room; omega) (by unfold maxLen; omega)
        simp [y3, y4, w5, y12, y72, y73, w1, hP0, hP0', hPne, o1, o2, hfr, Nat.add_assoc, hz1, apK_some, n3, n4, hgo, happ]
        have hgo' : (tb = ob) = False := by
          simp; intro e; rw [e, hgo] at hg1; cases hg1
        have hpo : (pb = ob) = False := by
          simp; intro e; rw [e, hgo] at hgp; cases hgp
        have e2 : ∀ q, q < h1.next → ∀ z, (q = h1.next + z) = False := fun q hq z => by simp; omega
        refine ⟨k - 1, by omega, _, _, i + 1, rfl, by omega, by simp [y3], by simp [y4], by simp [y72], by simp, .inr ⟨by rw [hst]; simp, h1.next + 205, rs ++ [.slr pb 0 P.length 1 none], by rw [hst, List.length_append, ← hq]; simp, by simp, by (simp <;> omega), ?_⟩, by simp [n2, hgo', hg1], by (simp <;> omega), ?_⟩
        · rw [hst]
          exact rw1.snoc (P := P) (by omega) (fun q hq hqo => by simp [e2 q hq, hqo]) (by (simp <;> omega)) (by simp [n1, hpo, hgp]) (by omega) (by (simp <;> omega))
        · repeat' first | exact hf1 | apply Heap.Fr.bump | apply Heap.Fr.set
          all_goals (simp <;> omega)
  · simp [k36l4, v72, v73, hi]
    exact ⟨_, _, i, rfl, by omega, by simp [v3], by simp [v4], by simp [v72], by simp [v73], by simpa using ho.mono (un_bump _ 104), by simp [hg], by (simp <;> omega), hf.bump _⟩
end Go.Proofs.YtppfjkebamegnaaDoor
/- Parts, by the document: the function; lists of lists compared. -/
namespace Go.Proofs.YtppfjkebamegnaaDoor
open Go Go.Em Go.Em.Net Go.Em.Tie
set_option maxRecDepth 100000
theorem fTie_own {l : List Clm} (h0 : chkF l = 0) : ∀ i j, fTie l j = i → fTie l i = i := by
  intro i j h
  refine tie_own (n := (marksF l).length) (fun p hp => ?_) h
  unfold prsF at hp
  obtain ⟨c, hc, rfl⟩ := List.mem_map.1 hp
  obtain ⟨ha, _⟩ := place_at ((marks_mem l c.a).2 ⟨c, hc, .inl rfl⟩)
  obtain ⟨hb, _⟩ := place_at ((marks_mem l c.b).2 ⟨c, hc, .inr rfl⟩)
  exact ⟨ha, hb⟩
set_option maxHeartbeats 8000000 in
theorem rparts_run (l : List Clm) {n : Nat} (hn : 4000 ≤ n) : pureCall (rc pg n) 36 [clsD l] = some (.ret (partsD (if chkF l = 0 then partsF l else []))) := by
  obtain ⟨m, rfl, e⟩ := body (pg := pg) (f := 36) (args := [clsD l]) (show 0 < n by omega) rfl rfl
  rw [e]
  have c1 := fun h => call_of (h := h) (pg := pg) (f := 26) rfl (cls_canon l) (@rchk_run l m (by omega))
  simp only [clsD] at c1
  by_cases h0 : chkF l = 0
  · rw [if_pos h0]
    rw [h0] at c1
    obtain ⟨hl1, _, hl3⟩ := chk_ok h0
    have c2 := fun h => call_of (h := h) (pg := pg) (f := 54) rfl (cls_canon l) (@rmarks_run l (by omega) m (by omega))
    simp only [clsD, intsD] at c2
    have hroom : (8 : Int) * (marksF l).length ≤ (room : Int) := by unfold room; omega
    simp [k36, Env.v_ini, clsD, c1, c2, hroom, ev_loop]
    refine Res.endsAfter (lp_rule 2 (qD0 l 333) _ (qd0_round l hl3 333) (marksF l).length m _ (by omega) ⟨_, _, 0, _, rfl, by omega, by simp [Env.v_ini, clsD], by simp [intsD], by simp, by simp, by simp, by simp; rfl, by rw [zer_rep]; simp, fun q hq => by omega, by simp, ?_⟩) ?_
    · repeat' first | exact Heap.Fr.empty | apply Heap.Fr.bump | apply Heap.Fr.set
      all_goals (simp <;> omega)
    rintro x s ⟨rfl, x, h, r, B, rfl, hr, v0, v3, v23, v24, v4, hfb, hBl, hB, npb, hf⟩
    have hrM : r = (marksF l).length := by omega
    subst hrM
    have hBe := nCs_ext hBl hB
    have v3' := v3
    simp only [intsD] at v3'
    simp [v3', ev_loop]
    refine Res.endsAfter (lp_rule 1100 (qD2 l 333) _ (qd2_round l h0 333) (marksF l).length m _ (by omega) ⟨_, _, 0, rfl, by omega, by simp [v0], by simp [v3], by simp, by simp, by simp [v4], by simp [hfb]; exact hBe, by (simp <;> omega), hf.bump _⟩) ?_
    rintro x s ⟨rfl, x, h, r, rfl, hr, v0, v3, v33, v34, v4, hfb, npb, hf⟩
    have hrM : r = (marksF l).length := by omega
    subst hrM
    have v3' := v3
    simp only [intsD] at v3'
    simp [v3', ev_loop]
    refine Res.endsAfter (lp_rule 200 (qD4 (marksF l) (fTie l) 333) _ (qd4_round (marksF l) hl3 (fTie l) (fTie_own h0) 333) (marksF l).length m _ (by omega) ⟨_, _, 0, rfl, by omega, by simp [v3], by simp [v4], by simp, by simp, .inl ⟨rfl, by simp⟩, by simp [hfb, fTie], by (simp <;> omega), (hf.bump _).bump _⟩) ?_
    rintro x s ⟨rfl, x, h, r, rfl, hr, v3, v4, v72, v73, ho, hg, ntb, hf⟩
    have hrM : r = (marksF l).length := by omega
    subst hrM
    obtain ⟨d5, hd5⟩ : ∃ d, d = x.v 10 := ⟨_, rfl⟩
    rw [← hd5] at ho
    have ho2 : IsOut d5 (pasF (marksF l) (fTie l) (marksF l).length) ((h.bump 104)) := ho.mono (un_bump h 104)
    obtain ⟨ks, hz⟩ := frz_out ho2
    simp [← hd5, partsF]
    exact ⟨ks, hz⟩
  · have h0' : (chkF l != 0) = true := by simpa using h0
    rw [if_neg h0]
    simp [-bne_iff_ne, k36, Env.v_ini, clsD, c1, h0', partsD]
end Go.Proofs.YtppfjkebamegnaaDoor
/- Lists of lists compared. -/
namespace Go.Proofs.YtppfjkebamegnaaDoor
open Go Go.Em Go.Em.Net Go.Em.Tie
set_option maxRecDepth 100000
def qSL (O : List (List Int)) (k : Nat) (s : St) : Prop := ∃ (x : Env 27) (h : Heap) (i : Nat), s = ⟨x.l, h, []⟩ ∧ i + k = O.length ∧ x.v 0 = partsD O ∧ x.v 1 = partsD O ∧ x.v 12 = D.int O.length ∧ x.v 13 = D.int i
set_option maxHeartbeats 8000000 in
theorem sl_round (O : List (List Int)) (hO : O.length ≤ 1000) (hx : ∀ x ∈ O, x.length ≤ 1000) : ∀ n, 1100 ≤ n → ∀ k s, qSL O k s → Res (k34l0.ev ⟨pg, 27, none⟩ (rc pg n) s) (Rnd (qSL O) (fun x s => x = .exit 0 ∧ qSL O 0 s) k) := by
  rintro n hn k s ⟨x, h, i, rfl, hik, v0, v1, v12, v13⟩
  by_cases hi : i < O.length
  · have w1 : IntKind.i64.wrap ((i : Int) + 1) = (i : Int) + 1 := wrap_i64 (by omega) (by omega)
    obtain ⟨a, ha⟩ : ∃ a, O[i] = a := ⟨_, rfl⟩
    have ham : a ∈ O := by rw [← ha]; exact List.getElem_mem hi
    have f1 := @sameI_run a a (by have := hx a ham; omega) n (by have := hx a ham; omega)
    rw [sameF_self] at f1
    obtain ⟨B, hB⟩ : ∃ B, B = O.map intsD := ⟨_, rfl⟩
    have v0' : x.v 0 = .sl false B := by rw [v0, hB]; rfl
    have v1' : x.v 1 = .sl false B := by rw [v1, hB]; rfl
    have hBl : B.length = O.length := by rw [hB]; simp
    have a1 : B[i]? = some (intsD a) := by rw [hB, List.getElem?_map, List.getElem?_eq_getElem hi, ha]; rfl
    have e1 : ∀ h' : i < B.length, B[i]'h' = intsD a := fun h' => by have := List.getElem?_eq_getElem h'; rw [a1] at this; exact (Option.some.inj this).symm
    have s30 : pg.sh 30 = false := rfl
    have hc := ints_canonL a
    simp only [intsD] at f1 a1 e1
    simp [k34l0, v0', v1', v12, v13, hi, w1, a1, e1, hBl, D.cells, D.one, dcore_f, s30, f1, hc]
    exact ⟨k - 1, by omega, _, _, i + 1, rfl, by omega, by simp [v0], by simp [v1], by simp [v12], by simp⟩
  · simp [k34l0, v12, v13, hi]
    exact ⟨_, _, i, rfl, by omega, by simp [v0], by simp [v1], by simp [v12], by simp [v13]⟩
theorem sl_run (O : List (List Int)) (hO : O.length ≤ 1000) (hx : ∀ x ∈ O, x.length ≤ 1000) {n : Nat} (hn : 2200 ≤ n) : pureCall (rc pg n) 34 [partsD O, partsD O] = some (.ret (D.bool true)) := by
  obtain ⟨m, rfl, e⟩ := body (pg := pg) (f := 34) (args := [partsD O, partsD O]) (show 0 < n by omega) rfl rfl
  rw [e]
  simp [k34, Env.v_ini, partsD, ev_loop]
  refine Res.endsAfter (lp_rule 1100 (qSL O) _ (sl_round O hO hx) O.length m _ (by omega) ⟨_, _, 0, rfl, by omega, by simp [Env.v_ini, partsD], by simp [Env.v_ini, partsD], by simp, by simp⟩) ?_
  rintro x s ⟨rfl, x, h, i, rfl, _⟩
  simp
theorem parts_small (l : List Clm) (h0 : chkF l = 0) : (partsF l).length ≤ 1000 ∧ ∀ x ∈ partsF l, x.length ≤ 1000 := by
  obtain ⟨_, _, h3⟩ := chk_ok h0
  refine ⟨by have := pas_len (marksF l) (fTie l) (marksF l).length; unfold partsF; omega, fun x hx => ?_⟩
  unfold partsF pasF at hx
  obtain ⟨t, _, rfl⟩ := List.mem_map.1 hx
  have := pt_len (marksF l) (fTie l) t (marksF l).length
  omega
end Go.Proofs.YtppfjkebamegnaaDoor
/- SpanChecks. -/
namespace Go.Proofs.YtppfjkebamegnaaDoor
open Go Go.Em Go.Em.Net Go.Em.Tie
set_option maxRecDepth 100000
theorem call_flat {pg : Pg} {R : Rc} {f : FuncId} {a : D} {args bs : List D} {ks : List Nat} {h : Heap} {o : Out} (hs : pg.sh f = false) (ha : each (Go.Em.frz h depth) (a :: args) = some (bs, ks)) (x : pureCall R f bs = some o) (hf : o.d.flat = true) : call pg R f (a :: args) h = some (o, h) := by
  have e : call pg R f (a :: args) h = some (o, if (ks.isEmpty || o.d.flat) = true then h else h.kill ks) := by
    simp only [call, hs, ha, pureA, pureS, x, orS, Option.map_some, Bool.false_eq_true, if_false]
  rw [e, hf]
  simp
theorem pmarks_run (l : List Clm) {n : Nat} (hn : 2000 ≤ n) : pureCall (rc pg n) 31 [clsD l] = some (.ret (intsD (if chkF l = 0 then marksF l else []))) := by
  obtain ⟨m, rfl, e⟩ := body (pg := pg) (f := 31) (args := [clsD l]) (show 0 < n by omega) rfl rfl
  rw [e]
  have c1 := fun h => call_of (h := h) (pg := pg) (f := 29) rfl (cls_canon l) (@chk_run l m (by omega))
  simp only [clsD] at c1
  by_cases h0 : chkF l = 0
  · rw [if_pos h0]
    rw [h0] at c1
    obtain ⟨hl, h2, _⟩ := chk_ok h0
    have c2 := fun h => call_of (h := h) (pg := pg) (f := 71) rfl (cls_canon l) (@marks_run l (fun c hc => ok_marks (h2 c hc)) (by omega) m (by omega))
    simp only [clsD] at c2
    have hcan := fun h n => each_canon h n _ (ints_canonL (marksF l))
    simp [k31, Env.v_ini, clsD, c1, c2, intsD, hcan]
  · have h0' : (chkF l != 0) = true := by simpa using h0
    rw [if_neg h0]
    simp [-bne_iff_ne, k31, Env.v_ini, clsD, c1, h0', intsD]
theorem rrmarks_run (l : List Clm) {n : Nat} (hn : 4000 ≤ n) : pureCall (rc pg n) 14 [clsD l] = some (.ret (intsD (if chkF l = 0 then marksF l else []))) := by
  obtain ⟨m, rfl, e⟩ := body (pg := pg) (f := 14) (args := [clsD l]) (show 0 < n by omega) rfl rfl
  rw [e]
  have c1 := fun h => call_of (h := h) (pg := pg) (f := 26) rfl (cls_canon l) (@rchk_run l m (by omega))
  simp only [clsD] at c1
  by_cases h0 : chkF l = 0
  · rw [if_pos h0]
    rw [h0] at c1
    obtain ⟨hl, h2, _⟩ := chk_ok h0
    have c2 := fun h => call_of (h := h) (pg := pg) (f := 54) rfl (cls_canon l) (@rmarks_run l (by omega) m (by omega))
    simp only [clsD, intsD] at c2
    have hcan := fun h n => each_canon h n _ (ints_canonL (marksF l))
    simp [k14, Env.v_ini, clsD, c1, c2, intsD, hcan]
  · have h0' : (chkF l != 0) = true := by simpa using h0
    rw [if_neg h0]
    simp [-bne_iff_ne, k14, Env.v_ini, clsD, c1, h0', intsD]
theorem sources_bad (l : List Clm) (h0 : chkF l ≠ 0) {h : Heap} {n : Nat} (hn : 3000 ≤ n) : ∃ h', (rc pg n).fn 32 [clsD l] h = some (.ret (.val (.slice none 0 0)), h') := by
  obtain ⟨m, rfl, e⟩ := fn_body (pg := pg) (f := 32) (args := [clsD l]) (h := h) (show 0 < n by omega) rfl rfl
  rw [e]
  have c1 := fun h => call_of (h := h) (pg := pg) (f := 29) rfl (cls_canon l) (@chk_run l m (by omega))
  simp only [clsD] at c1
  have h0' : (chkF l != 0) = true := by simpa using h0
  simp [-bne_iff_ne, k32, Env.v_ini, clsD, c1, h0']
set_option maxHeartbeats 8000000 in
theorem checks_law (c : Clm) (l : List Clm) {f : Nat} (hf : 2000000 ≤ f) : pureCall (rc pg f) 7 [clD c, clsD l] = some (.ret (D.bool true)) := by
  obtain ⟨m, rfl, e⟩ := body (pg := pg) (f := 7) (args := [clD c, clsD l]) (show 0 < f by omega) rfl rfl
  rw [e]
  have hsn := fun h => @sane_call m (by omega) h
  have r27 := ck_run c (n := m) (by omega)
  have r28 := rck_run c (n := m) (by omega)
  have r29 := @chk_run l m (by omega)
  have r26 := @rchk_run l m (by omega)
  have hcl := canonL_map clD cl_canon l
  have c31 := fun h => call_of (h := h) (pg := pg) (f := 31) rfl (cls_canon l) (@pmarks_run l m (by omega))
  have s27 : pg.sh 27 = false := rfl
  have s28 : pg.sh 28 = false := rfl
  have s29 : pg.sh 29 = false := rfl
  have s26 : pg.sh 26 = false := rfl
  simp only [clsD, clD, clC] at r27 r28 r29 r26
  have e1 : (ckF c != ckF c) = false := by simp
  have e2 : (chkF l != chkF l) = false := by simp
  have c14 := fun h => call_of (h := h) (pg := pg) (f := 14) rfl (cls_canon l) (@rrmarks_run l m (by omega))
  have c33 := fun h => call_of (h := h) (pg := pg) (f := 33) rfl (cls_canon l) (@rsources_run l m (by omega))
  have c35 := fun h => call_of (h := h) (pg := pg) (f := 35) rfl (cls_canon l) (@parts_run l m (by omega))
  have c36 := fun h => call_of (h := h) (pg := pg) (f := 36) rfl (cls_canon l) (@rparts_run l m (by omega))
  obtain ⟨A, hA⟩ : ∃ A, A = if chkF l = 0 then marksF l else [] := ⟨_, rfl⟩
  obtain ⟨S, hS⟩ : ∃ S, S = if chkF l = 0 then srcF l else [] := ⟨_, rfl⟩
  obtain ⟨O, hO⟩ : ∃ O, O = if chkF l = 0 then partsF l else [] := ⟨_, rfl⟩
  rw [← hA] at c31 c14
  rw [← hS] at c33
  rw [← hO] at c35 c36
  have hAl : A.length ≤ 1000 := by
    rw [hA]; split
    · rename_i h0; have := (chk_ok h0).2.2; omega
    · simp
  have hSl : S.length ≤ 1000 := by
    rw [hS]; split
    · rename_i h0; have := (chk_ok h0).1; have := src_len l; omega
    · simp
  have hOl : O.length ≤ 1000 ∧ ∀ x ∈ O, x.length ≤ 1000 := by
    rw [hO]; split
    · rename_i h0; exact parts_small l h0
    · simp
  have r30 := @sameI_run A A (by omega) m (by omega)
  rw [sameF_self] at r30
  have c30 := fun h => call_of (h := h) (pg := pg) (f := 30) rfl (by simp [intsD, ints_canonL]) r30
  have r30b := @sameI_run S S (by omega) m (by omega)
  rw [sameF_self] at r30b
  have hcO : D.canonL [partsD O, partsD O] = true := by
    have : D.canonL (O.map intsD) = true := canonL_map intsD (fun x => by simp [intsD, ints_canonL]) O
    simp [partsD, this]
  have c34 := fun h => call_of (h := h) (pg := pg) (f := 34) rfl hcO (sl_run O hOl.1 hOl.2 (n := m) (by omega))
  obtain ⟨H, hH⟩ : ∃ H, H = (((Heap.empty.bump 39).set 2 (some (.cells 42 [D.int c.a, D.int c.b, D.int c.lo, D.int c.hi, D.int c.by_]))).bump 39).bump 39 := ⟨_, rfl⟩
  have hHf : H.Fr := by
    rw [hH]
    repeat' first | exact Heap.Fr.empty | apply Heap.Fr.bump | apply Heap.Fr.set
    all_goals (simp <;> omega)
  obtain ⟨h', d, r32, hz⟩ : ∃ h' d, (rc pg m).fn 32 [clsD l] H = some (.ret d, h') ∧ ∃ ks, each (Go.Em.frz h' depth) [d, intsD S] = some ([intsD S, intsD S], ks) := by
    have hcan := fun h n => each_canon h n _ (ints_canonL S)
    by_cases h0 : chkF l = 0
    · obtain ⟨kb, h', Z, r, hZ, hg, hk1, hk2, hf1, hu⟩ := sources_sh l h0 hHf (n := m) (by omega)
      refine ⟨h', _, r, [kb] ++ [], ?_⟩
      have hSs : S = srcF l := by rw [hS, if_pos h0]
      rw [← hSs] at hg hZ ⊢
      have e1 : frz h' depth (.slr kb 0 S.length 1 (some l.length)) = some (intsD S, [kb]) := by
        show frz h' (22 + 2) _ = _
        rw [frz_slr, hg, frzS_cells, if_pos (by simp)]
        have t1 : (((S ++ Z).map D.int).drop 0).take (S.length * 1) = S.map D.int := by
          rw [List.drop_zero, Nat.mul_one, List.map_append, List.take_append_of_le_length (by simp), List.take_of_length_le (by simp)]
        rw [t1, each_canon h' 22 _ (ints_canonL S)]
        simp only [Option.map_some]
        rw [chunk_ints]
        rfl
      have e2 : each (frz h' depth) [intsD S] = some ([intsD S], []) := each_canon h' 23 _ (by simp [intsD, ints_canonL])
      rw [each_cons, e1, e2]
      rfl
    · obtain ⟨h', r⟩ := sources_bad l h0 (h := H) (n := m) (by omega)
      refine ⟨h', _, r, [], ?_⟩
      have hSs : S = [] := by rw [hS, if_neg h0]
      rw [hSs]; rfl
  obtain ⟨ks, hz⟩ := hz
  have s32 := call_sh (pg := pg) (f := 32) rfl r32
  have c30b := call_flat (pg := pg) (R := rc pg m) (f := 30) rfl hz r30b rfl
  simp only [clsD] at c31 c14 c33 c35 c36 s32
  simp [-bne_eq_false_iff_eq, k7, Env.v_ini, clD, clC, clsD, D.cells, D.one, dcore_f, s27, s28, s29, s26, r27, r28, r29, r26, hcl, e1, e2, c31, c14, c30, ← hH, s32, c33, c30b, c35, c36, c34, hsn]
end Go.Proofs.YtppfjkebamegnaaDoor
