/- The lowest bit of a word, by package math/bits. -/
import Derived.Test.YtlkpikdfbodhoaaDoorPg
import Derived.Test.YtlkpikdfbodhoaaDoorEmBits
import Derived.Test.YtlkpikdfbodhoaaDoorClaim
import Derived.Test.YtlkpikdfbodhoaaDoorBnd
namespace Go.Proofs.YtlkpikdfbodhoaaDoor
open Go Go.Em
set_option maxRecDepth 100000
@[simp] theorem rd_bru (e : List D) : rd pg.gl e (.g 0) = .eref bruD := rfl
end Go.Proofs.YtlkpikdfbodhoaaDoor
/- The marks of a set, in order, by the program. -/
namespace Go.Proofs.YtlkpikdfbodhoaaDoor
open Go Go.Em
set_option maxRecDepth 100000
def GL (h : Heap) (d : D) (l : List Int) : Prop := (l = [] ∧ d = .val (.slice none 0 0)) ∨ ∃ k, d = .slr k 0 l.length 1 none ∧ h.get k = some (.cells 3 (l.map D.int)) ∧ k < h.next
theorem GL.keep {h h' : Heap} {d : D} {l : List Int} (g : GL h d l) (hn : h.next ≤ h'.next) (hk : ∀ k, k < h.next → h'.get k = h.get k) : GL h' d l := by
  rcases g with g | ⟨k, a, b, c⟩
  · exact .inl g
  · exact .inr ⟨k, a, by rw [hk k c]; exact b, by omega⟩
theorem GL.frz {h : Heap} {d : D} {l : List Int} (g : GL h d l) : ∃ ks, frz h depth d = some (.sl false (l.map D.int), ks) := by
  rcases g with ⟨rfl, rfl⟩ | ⟨k, rfl, g, _⟩
  · exact ⟨[], rfl⟩
  · refine ⟨k :: [], ?_⟩
    show Go.Em.frz h (23 + 1) _ = _
    simp [g]
    have : ∀ l : List Int, chunk 1 l.length (l.map D.int) = l.map D.int := by
      intro l
      induction l with
      | nil => rfl
      | cons a l ih => simp [chunk, ih]
    have hc : ∀ n, n = l.length → (l.map D.int).take n = l.map D.int := fun n hn => List.take_of_length_le (by simp [hn])
    simp [this, hc]
end Go.Proofs.YtlkpikdfbodhoaaDoor
/- The marks of claims, by the program. -/
namespace Go.Proofs.YtlkpikdfbodhoaaDoor
open Go Go.Em
set_option maxRecDepth 100000
theorem call_sh {pg : Pg} {R : Rc} {f : FuncId} {args : List D} {h h' : Heap} {o : Out} (hs : pg.sh f = true) (x : R.fn f args h = some (o, h')) : call pg R f args h = some (o, h') := by
  simp [call, hs, x]
end Go.Proofs.YtlkpikdfbodhoaaDoor
/- The marks of claims, by the document's own function. -/
namespace Go.Proofs.YtlkpikdfbodhoaaDoor
open Go Go.Em
set_option maxRecDepth 100000
def intsD (l : List Int) : D := .sl false (l.map D.int)
theorem ints_canonL (l : List Int) : D.canonL (l.map D.int) = true := canonL_map D.int (fun _ => rfl) l
def WI (l : List Int) (n : Int) (k : Nat) (s : St) : Prop := ∃ (x : Env 49) (h : Heap), s = ⟨x.l, h, []⟩ ∧ k ≤ l.length ∧ x.v 0 = intsD l ∧ x.v 1 = D.int n ∧ x.v 5 = D.int k ∧ (∀ j (hj : j < l.length), k ≤ j → n ≤ l[j]) ∧ h.Fr
def WQ (l : List Int) (n : Int) (x : Ex) (s : St) : Prop := x = .exit 0 ∧ ∃ k, WI l n k s ∧ ∀ (h0 : 0 < k) (hk : k ≤ l.length), l[k - 1]'(by omega) < n
set_option maxHeartbeats 1000000 in
theorem with_round (l : List Int) (n : Int) (hl : l.length ≤ 4000) : ∀ m, 0 ≤ m → ∀ k s, WI l n k s → Res (k65l0.ev ⟨pg, 49, none⟩ (rc pg m) s) (Rnd (WI l n) (WQ l n) k) := by
  rintro m hm k s ⟨x, h, rfl, hk, v0, v1, v5, hge, hf⟩
  simp only [intsD] at v0
  by_cases h0 : k = 0
  · subst h0
    simp [k65l0, v5]
    exact ⟨rfl, 0, ⟨_, _, rfl, by omega, by simp [v0, intsD], by simp [v1], by simp [v5], hge, hf.bump _⟩, fun h => by omega⟩
  · have hk1 : k - 1 < l.length := by omega
    have w1 : IntKind.i64.wrap ((k : Int) - 1) = ((k - 1 : Nat) : Int) := by rw [wrap_i64 (by omega) (by omega)]; omega
    have p1 : (0 : Int) < (k : Int) := by omega
    obtain ⟨v, hv⟩ : ∃ v, l[k - 1] = v := ⟨_, rfl⟩
    obtain ⟨q, hq⟩ : ∃ q, q = k - 1 := ⟨_, rfl⟩
    rw [← hq] at w1
    have hq1 : q < l.length := by omega
    have hv' : l[q] = v := by rw [← hv]; congr
    have p2 : 0 < k := by omega
    by_cases hlt : n ≤ v
    · simp [k65l0, v0, v1, v5, p2, w1, hq1, hv', hlt, D.cells]
      refine ⟨q, by omega, _, _, rfl, by omega, by simp [v0, intsD], by simp [v1], by simp, fun j hj hqj => ?_, ?_⟩
      · by_cases e : j = q
        · subst e; rw [hv']; exact hlt
        · exact hge j hj (by omega)
      · repeat' first | exact hf | apply Heap.Fr.bump | apply Heap.Fr.set
    · simp [k65l0, v0, v1, v5, p2, w1, hq1, hv', hlt, D.cells]
      exact ⟨rfl, k, ⟨_, _, rfl, by omega, by simp [v0, intsD], by simp [v1], by simp [v5], hge, hf.bump _⟩, fun _ _ => by rw [hv]; omega⟩
theorem appS_zero {t et sz bytes : Nat} {h : Heap} {m : Nat} {news cs : List D} {k : Nat} {ty : TypeId} (h0 : 0 < m) (hr : m * bytes ≤ room) (hm : m ≤ maxLen) :
    appS t et sz bytes h m news k 0 0 sz (some 0) (some (.cells ty cs)) = (h.alloc t (.cells et news)).map fun h => (.slr t 0 m sz none, h) := by
  unfold appS
  simp [hr, hm, show ¬ m = 0 by omega]
theorem chunk_ints : ∀ l : List Int, chunk 1 l.length (l.map D.int) = l.map D.int
  | [] => rfl
  | a :: l => by
    have := chunk_ints l
    simp [chunk, this]
theorem ints_all (l : List Int) : (l.map D.int).all (fun e => e.cells.length == 1) = true := by simp [D.cells]
theorem ints_one (l : List Int) : (l.map D.int).all D.one = true := by simp [D.one]
theorem ints_flat : ∀ l : List Int, (l.map D.int).flatMap D.cells = l.map D.int
  | [] => rfl
  | a :: l => by rw [List.map_cons, List.flatMap_cons, ints_flat l]; rfl
theorem headInts (l : List Int) : headOk 1 (l.map D.int) = true := by cases l <;> rfl
theorem end_ints (h : Heap) (C : List Int) (q : Nat) (hq : q = C.length) : each (Go.Em.frz h 23) (List.take q (C.map D.int)) = some (C.map D.int, []) ∧ chunk 1 q (C.map D.int) = C.map D.int := by
  subst hq
  rw [List.take_of_length_le (by simp)]
  exact ⟨each_canon h 22 _ (ints_canonL C), chunk_ints C⟩
set_option maxHeartbeats 4000000 in
theorem with_run (l : List Int) (hr : Rise l) (hl : l.length ≤ 4000) (v : Int) {n : Nat} (hn : l.length + 5 ≤ n) : pureCall (rc pg n) 65 [intsD l, D.int v] = some (.ret (intsD (insF l v))) := by
  obtain ⟨m, rfl, e⟩ := body (pg := pg) (f := 65) (args := [intsD l, D.int v]) (show 0 < n by omega) rfl rfl
  rw [e]
  simp [k65, Env.v_ini, intsD, ev_loop]
  refine Res.endsAfter (lp_rule 0 (WI l v) _ (with_round l v hl) l.length m _ (by omega) ⟨_, _, rfl, by omega, by simp [Env.v_ini, intsD], by simp [Env.v_ini], by simp, fun j hj h => by omega, ?_⟩) ?_
  · repeat' first | exact Heap.Fr.empty | apply Heap.Fr.bump | apply Heap.Fr.set
  rintro x s ⟨rfl, k, ⟨x, h, rfl, hk, v0, v1, v5, hge, hf⟩, hlow⟩
  have hins := ins_at hr hk hge (fun h0 => hlow h0 hk)
  have hfr : ∀ j, h.raw (h.next + j) = none := fun j => hf _ (by omega)
  simp only [intsD] at v0
  have hcan := fun h n (l : List Int) => each_canon h n _ (ints_canonL l)
  obtain ⟨A, hA⟩ : ∃ A, A = l.take k := ⟨_, rfl⟩
  obtain ⟨B, hB⟩ : ∃ B, B = l.drop k := ⟨_, rfl⟩
  have hAl : A.length = k := by rw [hA]; simp; omega
  have hBl : B.length = l.length - k := by rw [hB]; simp
  have tA : List.take k (l.map D.int) = A.map D.int := by rw [hA, List.map_take]
  have tB : List.drop k (l.map D.int) = B.map D.int := by rw [hB, List.map_drop]
  have tB2 : List.take (l.length - k) (B.map D.int) = B.map D.int := List.take_of_length_le (by simp [hBl])
  have a1 := ints_all A
  have a2 := ints_one A
  have a3 := ints_flat A
  have b1 := ints_all B
  have b2 := ints_one B
  have b3 := ints_flat B
  by_cases h3 : k < l.length
  · rw [dif_pos h3] at hins
    obtain ⟨w, hw⟩ : ∃ w, l[k] = w := ⟨_, rfl⟩
    rw [hw] at hins
    by_cases h4 : w = v
    · rw [if_pos h4] at hins
      have h4' : (w == v) = true := by simp [h4]
      simp [v0, v1, v5, h3, hw, h4', D.cells, hins, hcan]
    · rw [if_neg h4, ← hA, ← hB] at hins
      have h4' : (w == v) = false := by simp [h4]
      have hB0 : B.length ≠ 0 := by omega
      by_cases hk0 : k = 0
      · have hA0 : A = [] := List.eq_nil_of_length_eq_zero (by omega)
        subst hA0
        have hz := fun t hh news ty cs kk => appS_zero (t := t) (et := 3) (sz := 1) (bytes := 8) (h := hh) (m := 1) (news := news) (cs := cs) (k := kk) (ty := ty) (by omega) (by unfold room; omega) (by unfold maxLen; omega)
        have hB1 := fun t hh news kk cs (hc : cs.length = 1 * 1) => appS_none (t := t) (et := 3) (sz := 1) (bytes := 8) (h := hh) (m := B.length) (news := news) (k := kk) (n := 1) (cs := cs) hc (by omega) (by unfold room; omega) (by unfold maxLen; omega)
        simp [v0, v1, v5, h3, hw, h4', D.cells, D.one, hins, hfr, Nat.add_assoc, hk, headInts, tA, tB, tB2, b2, b3, hB0, apK_zero_slr, apK_some, hz, hB1, zerosD]
        exact ⟨by omega, _, _, _, (end_ints _ (v :: B) _ (by simp; omega)).1, (end_ints .empty (v :: B) _ (by simp; omega)).2, rfl⟩
      · have hA0 : A.length ≠ 0 := by omega
        have hz := fun t hh news ty cs kk => appS_zero (t := t) (et := 3) (sz := 1) (bytes := 8) (h := hh) (m := A.length) (news := news) (cs := cs) (k := kk) (ty := ty) (by omega) (by unfold room; omega) (by unfold maxLen; omega)
        have hA1 := fun t hh news kk => appS_none (t := t) (et := 3) (sz := 1) (bytes := 8) (h := hh) (m := 1) (news := news) (k := kk) (n := A.length) (cs := A.map D.int) (by simp) (by omega) (by unfold room; omega) (by unfold maxLen; omega)
        have hB1 := fun t hh news kk cs (hc : cs.length = (A.length + 1) * 1) => appS_none (t := t) (et := 3) (sz := 1) (bytes := 8) (h := hh) (m := B.length) (news := news) (k := kk) (n := A.length + 1) (cs := cs) hc (by omega) (by unfold room; omega) (by unfold maxLen; omega)
        simp [v0, v1, v5, h3, hw, h4', D.cells, D.one, hins, hfr, Nat.add_assoc, hk, headInts, tA, tB, tB2, a2, a3, b2, b3, hA0, hB0, apK_some, hz, hA1, hB1, zerosD]
        have e1 := fun h => end_ints h (A ++ v :: B) (A.length + (1 + B.length)) (by simp; omega)
        rw [List.map_append, List.map_cons] at e1
        exact ⟨by omega, _, _, _, (e1 _).1, (e1 .empty).2, rfl⟩
  · rw [dif_neg h3] at hins
    have hkl : k = l.length := by omega
    have hB0 : B = [] := List.eq_nil_of_length_eq_zero (by omega)
    subst hB0
    have hlA : A = l := by rw [hA, hkl]; exact List.take_length
    by_cases hk0 : k = 0
    · have hA0 : A = [] := List.eq_nil_of_length_eq_zero (by omega)
      have hl0 : l = [] := by rw [← hlA, hA0]
      subst hl0
      subst hA0
      have hz := fun t hh news ty cs kk => appS_zero (t := t) (et := 3) (sz := 1) (bytes := 8) (h := hh) (m := 1) (news := news) (cs := cs) (k := kk) (ty := ty) (by omega) (by unfold room; omega) (by unfold maxLen; omega)
      subst hk0
      simp [v0, v1, v5, D.cells, D.one, hins, hfr, Nat.add_assoc, headOk, apK_zero_slr, apK_some, hz, zerosD]
      rfl
    · have hA0 : A.length ≠ 0 := by omega
      have hz := fun t hh news ty cs kk => appS_zero (t := t) (et := 3) (sz := 1) (bytes := 8) (h := hh) (m := A.length) (news := news) (cs := cs) (k := kk) (ty := ty) (by omega) (by unfold room; omega) (by unfold maxLen; omega)
      have hA1 := fun t hh news kk => appS_none (t := t) (et := 3) (sz := 1) (bytes := 8) (h := hh) (m := 1) (news := news) (k := kk) (n := A.length) (cs := A.map D.int) (by simp) (by omega) (by unfold room; omega) (by unfold maxLen; omega)
      simp [v0, v1, v5, h3, D.cells, D.one, hins, hfr, Nat.add_assoc, hk, headInts, tA, tB, a2, a3, hA0, apK_zero_slr, apK_some, hz, hA1, zerosD]
      have e1 := fun h => end_ints h (A ++ [v]) (A.length + 1) (by simp)
      rw [List.map_append, List.map_cons, List.map_nil] at e1
      rw [← hlA]
      exact ⟨_, ⟨_, (e1 _).1⟩, (e1 .empty).2⟩
def IsInts (d : D) (l : List Int) : Prop := d = intsD l ∨ (l = [] ∧ d = .val (.slice none 0 0))
theorem IsInts.frz {d : D} {l : List Int} (h : IsInts d l) (v : Int) (hh : Heap) : each (Go.Em.frz hh depth) [d, D.int v] = some ([intsD l, D.int v], []) := by
  rcases h with rfl | ⟨rfl, rfl⟩
  · exact each_canon hh 23 _ (by simp [intsD, ints_canonL])
  · rfl
end Go.Proofs.YtlkpikdfbodhoaaDoor
/- Whether a list of claims is valid: by the program and by the document. -/
namespace Go.Proofs.YtlkpikdfbodhoaaDoor
open Go Go.Em
set_option maxRecDepth 100000
end Go.Proofs.YtlkpikdfbodhoaaDoor
/- Where a chain leads, and what it shows: by the program and by the document. -/
namespace Go.Proofs.YtlkpikdfbodhoaaDoor
open Go Go.Em
set_option maxRecDepth 100000
structure Stp where
  c : Int
  back : Bool
def stC (s : Stp) : List D := [D.int s.c, D.bool s.back]
def stD (s : Stp) : D := .agg (stC s)
def stsD (l : List Stp) : D := .sl false (l.map stD)
abbrev W3 := Int × Int × Int
def w4 (p : W3 × Int) : D := .tup [D.int p.1.1, D.int p.1.2.1, D.int p.1.2.2, D.int p.2]
end Go.Proofs.YtlkpikdfbodhoaaDoor
/- Where a chain leads: the functions. -/
namespace Go.Proofs.YtlkpikdfbodhoaaDoor
open Go Go.Em
set_option maxRecDepth 100000
end Go.Proofs.YtlkpikdfbodhoaaDoor
