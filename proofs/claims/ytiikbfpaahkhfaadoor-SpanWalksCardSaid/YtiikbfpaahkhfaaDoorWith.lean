/- The marks of claims, by the document's own function. -/
import Derived.Test.YtiikbfpaahkhfaaDoorMarks
namespace Go.Proofs.YtiikbfpaahkhfaaDoor
open Go Go.Em
set_option maxRecDepth 100000
def intsD (l : List Int) : D := .sl false (l.map D.int)
theorem ints_canonL (l : List Int) : D.canonL (l.map D.int) = true := canonL_map D.int (fun _ => rfl) l
/-- How far the search from the end has come. -/
def WI (l : List Int) (n : Int) (k : Nat) (s : St) : Prop := ∃ (x : Env 49) (h : Heap), s = ⟨x.l, h, []⟩ ∧ k ≤ l.length ∧ x.v 0 = intsD l ∧ x.v 1 = D.int n ∧ x.v 5 = D.int k ∧ (∀ j (hj : j < l.length), k ≤ j → n ≤ l[j]) ∧ h.Fr
def WQ (l : List Int) (n : Int) (x : Ex) (s : St) : Prop := x = .exit 0 ∧ ∃ k, WI l n k s ∧ ∀ (h0 : 0 < k) (hk : k ≤ l.length), l[k - 1]'(by omega) < n
set_option maxHeartbeats 1000000 in
theorem with_round (l : List Int) (n : Int) (hl : l.length ≤ 4000) : ∀ m, 0 ≤ m → ∀ k s, WI l n k s → Res (k62l0.ev ⟨pg, 49, none⟩ (rc pg m) s) (Rnd (WI l n) (WQ l n) k) := by
  rintro m hm k s ⟨x, h, rfl, hk, v0, v1, v5, hge, hf⟩
  simp only [intsD] at v0
  by_cases h0 : k = 0
  · subst h0
    simp [k62l0, v5]
    exact ⟨rfl, 0, ⟨_, _, rfl, by omega, by simp [v0, intsD], by simp [v1], by simp [v5], hge, hf.bump _⟩, fun h => by omega⟩
  · have hk1 : k - 1 < l.length := by omega
    have w1 : IntKind.i64.wrap ((k : Int) - 1) = ((k - 1 : Nat) : Int) := by rw [wrap_i64 (by omega) (by omega)]; omega
    have p1 : (0 : Int) < (k : Int) := by omega
    obtain ⟨v, hv⟩ : ∃ v, l[k - 1] = v := ⟨_, rfl⟩
    obtain ⟨q, hq⟩ : ∃ q, q = k - 1 := ⟨_, rfl⟩
    rw [← hq] at w1
    have hq1 : q < l.length := by omega
    have hv' : l[q] = v := by rw [← hv]; congr
    have p2 : 0 < k := by omega
    by_cases hlt : n ≤ v
    · simp [k62l0, v0, v1, v5, p2, w1, hq1, hv', hlt, D.cells, D.one]
      refine ⟨q, by omega, _, _, rfl, by omega, by simp [v0, intsD], by simp [v1], by simp, fun j hj hqj => ?_, ?_⟩
      · by_cases e : j = q
        · subst e; rw [hv']; exact hlt
        · exact hge j hj (by omega)
      · repeat' first | exact hf | apply Heap.Fr.bump | apply Heap.Fr.set
    · simp [k62l0, v0, v1, v5, p2, w1, hq1, hv', hlt, D.cells, D.one]
      exact ⟨rfl, k, ⟨_, _, rfl, by omega, by simp [v0, intsD], by simp [v1], by simp [v5], hge, hf.bump _⟩, fun _ _ => by rw [hv]; omega⟩
theorem appS_zero {t et sz bytes : Nat} {h : Heap} {m : Nat} {news cs : List D} {k : Nat} {ty : TypeId} (h0 : 0 < m) (hr : m * bytes ≤ room) (hm : m ≤ maxLen) :
    appS t et sz bytes h m news k 0 0 sz (some 0) (some (.cells ty cs)) = (h.alloc t (.cells et news)).map fun h => (.slr t 0 m sz none, h) := by
  unfold appS
  simp [hr, hm, show ¬ m = 0 by omega]
theorem chunk_ints : ∀ l : List Int, chunk 1 l.length (l.map D.int) = l.map D.int
  | [] => rfl
  | a :: l => by
    have := chunk_ints l
    simp [chunk, this]
theorem ints_all (l : List Int) : (l.map D.int).all (fun e => e.cells.length == 1) = true := by simp [D.cells]
theorem ints_one (l : List Int) : (l.map D.int).all D.one = true := by simp [D.one]
theorem ints_flat : ∀ l : List Int, (l.map D.int).flatMap D.cells = l.map D.int
  | [] => rfl
  | a :: l => by rw [List.map_cons, List.flatMap_cons, ints_flat l]; rfl
theorem headInts (l : List Int) : headOk 1 (l.map D.int) = true := by cases l <;> rfl
theorem end_ints (h : Heap) (C : List Int) (q : Nat) (hq : q = C.length) : each (Go.Em.frz h 23) (List.take q (C.map D.int)) = some (C.map D.int, []) ∧ chunk 1 q (C.map D.int) = C.map D.int := by
  subst hq
  rw [List.take_of_length_le (by simp)]
  exact ⟨each_canon h 22 _ (ints_canonL C), chunk_ints C⟩
set_option maxHeartbeats 4000000 in
theorem with_run (l : List Int) (hr : Rise l) (hl : l.length ≤ 4000) (v : Int) {n : Nat} (hn : l.length + 5 ≤ n) : pureCall (rc pg n) 62 [intsD l, D.int v] = some (.ret (intsD (insF l v))) := by
  obtain ⟨m, rfl, e⟩ := body (pg := pg) (f := 62) (args := [intsD l, D.int v]) (show 0 < n by omega) rfl rfl
  rw [e]
  simp [k62, Env.v_ini, intsD, ev_loop]
  refine Res.endsAfter (lp_rule 0 (WI l v) _ (with_round l v hl) l.length m _ (by omega) ⟨_, _, rfl, by omega, by simp [Env.v_ini, intsD], by simp [Env.v_ini], by simp, fun j hj h => by omega, ?_⟩) ?_
  · repeat' first | exact Heap.Fr.empty | apply Heap.Fr.bump | apply Heap.Fr.set
  rintro x s ⟨rfl, k, ⟨x, h, rfl, hk, v0, v1, v5, hge, hf⟩, hlow⟩
  have hins := ins_at hr hk hge (fun h0 => hlow h0 hk)
  have hfr : ∀ j, h.raw (h.next + j) = none := fun j => hf _ (by omega)
  simp only [intsD] at v0
  have hcan := fun h n (l : List Int) => each_canon h n _ (ints_canonL l)
  obtain ⟨A, hA⟩ : ∃ A, A = l.take k := ⟨_, rfl⟩
  obtain ⟨B, hB⟩ : ∃ B, B = l.drop k := ⟨_, rfl⟩
  have hAl : A.length = k := by rw [hA]; simp; omega
  have hBl : B.length = l.length - k := by rw [hB]; simp
  have tA : List.take k (l.map D.int) = A.map D.int := by rw [hA, List.map_take]
  have tB : List.drop k (l.map D.int) = B.map D.int := by rw [hB, List.map_drop]
  have tB2 : List.take (l.length - k) (B.map D.int) = B.map D.int := List.take_of_length_le (by simp [hBl])
  have a1 := ints_all A
  have a2 := ints_one A
  have a3 := ints_flat A
  have b1 := ints_all B
  have b2 := ints_one B
  have b3 := ints_flat B
  by_cases h3 : k < l.length
  · rw [dif_pos h3] at hins
    obtain ⟨w, hw⟩ : ∃ w, l[k] = w := ⟨_, rfl⟩
    rw [hw] at hins
    by_cases h4 : w = v
    · rw [if_pos h4] at hins
      have h4' : (w == v) = true := by simp [h4]
      simp [v0, v1, v5, h3, hw, h4', D.cells, hins, hcan]
    · rw [if_neg h4, ← hA, ← hB] at hins
      have h4' : (w == v) = false := by simp [h4]
      have hB0 : B.length ≠ 0 := by omega
      by_cases hk0 : k = 0
      · have hA0 : A = [] := List.eq_nil_of_length_eq_zero (by omega)
        subst hA0
        have hz := fun t hh news ty cs kk => appS_zero (t := t) (et := 3) (sz := 1) (bytes := 8) (h := hh) (m := 1) (news := news) (cs := cs) (k := kk) (ty := ty) (by omega) (by unfold room; omega) (by unfold maxLen; omega)
        have hB1 := fun t hh news kk cs (hc : cs.length = 1 * 1) => appS_none (t := t) (et := 3) (sz := 1) (bytes := 8) (h := hh) (m := B.length) (news := news) (k := kk) (n := 1) (cs := cs) hc (by omega) (by unfold room; omega) (by unfold maxLen; omega)
        simp [v0, v1, v5, h3, hw, h4', D.cells, D.one, hins, hfr, Nat.add_assoc, hk, headInts, tA, tB, tB2, b2, b3, hB0, apK_zero_slr, apK_some, hz, hB1, zerosD]
        exact ⟨by omega, _, _, _, (end_ints _ (v :: B) _ (by simp; omega)).1, (end_ints .empty (v :: B) _ (by simp; omega)).2, rfl⟩
      · have hA0 : A.length ≠ 0 := by omega
        have hz := fun t hh news ty cs kk => appS_zero (t := t) (et := 3) (sz := 1) (bytes := 8) (h := hh) (m := A.length) (news := news) (cs := cs) (k := kk) (ty := ty) (by omega) (by unfold room; omega) (by unfold maxLen; omega)
        have hA1 := fun t hh news kk => appS_none (t := t) (et := 3) (sz := 1) (bytes := 8) (h := hh) (m := 1) (news := news) (k := kk) (n := A.length) (cs := A.map D.int) (by simp) (by omega) (by unfold room; omega) (by unfold maxLen; omega)
        have hB1 := fun t hh news kk cs (hc : cs.length = (A.length + 1) * 1) => appS_none (t := t) (et := 3) (sz := 1) (bytes := 8) (h := hh) (m := B.length) (news := news) (k := kk) (n := A.length + 1) (cs := cs) hc (by omega) (by unfold room; omega) (by unfold maxLen; omega)
        simp [v0, v1, v5, h3, hw, h4', D.cells, D.one, hins, hfr, Nat.add_assoc, hk, headInts, tA, tB, tB2, a2, a3, b2, b3, hA0, hB0, apK_some, hz, hA1, hB1, zerosD]
        have e1 := fun h => end_ints h (A ++ v :: B) (A.length + (1 + B.length)) (by simp; omega)
        rw [List.map_append, List.map_cons] at e1
        exact ⟨by omega, _, _, _, (e1 _).1, (e1 .empty).2, rfl⟩
  · rw [dif_neg h3] at hins
    have hkl : k = l.length := by omega
    have hB0 : B = [] := List.eq_nil_of_length_eq_zero (by omega)
    subst hB0
    have hlA : A = l := by rw [hA, hkl]; exact List.take_length
    by_cases hk0 : k = 0
    · have hA0 : A = [] := List.eq_nil_of_length_eq_zero (by omega)
      have hl0 : l = [] := by rw [← hlA, hA0]
      subst hl0
      subst hA0
      have hz := fun t hh news ty cs kk => appS_zero (t := t) (et := 3) (sz := 1) (bytes := 8) (h := hh) (m := 1) (news := news) (cs := cs) (k := kk) (ty := ty) (by omega) (by unfold room; omega) (by unfold maxLen; omega)
      subst hk0
      simp [v0, v1, v5, D.cells, D.one, hins, hfr, Nat.add_assoc, headOk, apK_zero_slr, apK_some, hz, zerosD]
      rfl
    · have hA0 : A.length ≠ 0 := by omega
      have hz := fun t hh news ty cs kk => appS_zero (t := t) (et := 3) (sz := 1) (bytes := 8) (h := hh) (m := A.length) (news := news) (cs := cs) (k := kk) (ty := ty) (by omega) (by unfold room; omega) (by unfold maxLen; omega)
      have hA1 := fun t hh news kk => appS_none (t := t) (et := 3) (sz := 1) (bytes := 8) (h := hh) (m := 1) (news := news) (k := kk) (n := A.length) (cs := A.map D.int) (by simp) (by omega) (by unfold room; omega) (by unfold maxLen; omega)
      simp [v0, v1, v5, h3, D.cells, D.one, hins, hfr, Nat.add_assoc, hk, headInts, tA, tB, a2, a3, hA0, apK_zero_slr, apK_some, hz, hA1, zerosD]
      have e1 := fun h => end_ints h (A ++ [v]) (A.length + 1) (by simp)
      rw [List.map_append, List.map_cons, List.map_nil] at e1
      rw [← hlA]
      exact ⟨_, ⟨_, (e1 _).1⟩, (e1 .empty).2⟩
/-- A list of numbers, or nil: as a call sees it. -/
def IsInts (d : D) (l : List Int) : Prop := d = intsD l ∨ (l = [] ∧ d = .val (.slice none 0 0))
theorem IsInts.frz {d : D} {l : List Int} (h : IsInts d l) (v : Int) (hh : Heap) : each (Go.Em.frz hh depth) [d, D.int v] = some ([intsD l, D.int v], []) := by
  rcases h with rfl | ⟨rfl, rfl⟩
  · exact each_canon hh 23 _ (by simp [intsD, ints_canonL])
  · rfl
/-- A call in a drawn region whose arguments, frozen, are these. -/
theorem dcore_z {c : Cfg} {R : Rc} {base : Nat} {d : Option Nat} {f : FuncId} {args : List X} {ts hs : List HK} {wt : Nat} {e : List D} {h : Heap} {a : D} {bs cs : List D} {r : D} (hs' : c.pg.sh f = false) (ha : args.map (rd c.pg.gl e) = a :: bs) (hz : ∀ h, each (Go.Em.frz h depth) (a :: bs) = some (cs, []))
    (x : pureCall R f cs = some (.ret r)) : dcore c R base ⟨⟨none, d, .inr (.fn f args)⟩, some ts, hs, wt, false⟩ e h = some (r, h) := by
  unfold dcore
  simp only [want_none, hs', ha, hz, pureA, pureS, x, orS, Bool.false_eq_true, if_false, List.isEmpty_nil, Bool.true_or, Out.isPan, Out.d, thaw, BEq.rfl, Bool.and_self, if_true]
def RI (l : List Clm) (k : Nat) (s : St) : Prop := ∃ (x : Env 21) (h : Heap) (i : Nat), s = ⟨x.l, h, []⟩ ∧ i + k = l.length ∧ x.v 6 = clsD l ∧ x.v 7 = D.int l.length ∧ x.v 8 = D.int i ∧ IsInts (x.v 3) (marksF (l.take i)) ∧ h.Fr
set_option maxHeartbeats 2000000 in
theorem rmarks_round (l : List Clm) (hlen : l.length ≤ 1000) : ∀ n, 2010 ≤ n → ∀ k s, RI l k s → Res (k39l0.ev ⟨pg, 21, none⟩ (rc pg n) s) (Rnd (RI l) (fun x s => x = .exit 0 ∧ RI l 0 s) k) := by
  rintro n hn k s ⟨x, h, i, rfl, hik, v6, v7, v8, v3, hf⟩
  simp only [clsD] at v6
  by_cases hi : i < l.length
  · obtain ⟨c, hc⟩ : ∃ c, l[i] = c := ⟨_, rfl⟩
    have htk : l.take (i + 1) = l.take i ++ [c] := by rw [List.take_add_one, List.getElem?_eq_getElem hi, hc]; rfl
    have w1 : IntKind.i64.wrap ((i : Int) + 1) = (i : Int) + 1 := wrap_i64 (by omega) (by omega)
    have hfr : ∀ j, h.raw (h.next + j) = none := fun j => hf _ (by omega)
    have s62 : pg.sh 62 = false := rfl
    obtain ⟨M, hM⟩ : ∃ M, M = marksF (l.take i) := ⟨_, rfl⟩
    rw [← hM] at v3
    have hMr : Rise M := by rw [hM]; exact marks_rise _
    have hMl : M.length ≤ 2000 := by
      have := marks_len (l.take i)
      rw [← hM, List.length_take] at this; omega
    have hMl1 := insF_len M c.a
    have r1 := @with_run M hMr (by omega) c.a n (by omega)
    have r2 := @with_run (insF M c.a) (insF_rise hMr _) (by omega) c.b n (by omega)
    have hsn : marksF (l.take (i + 1)) = insF (insF M c.a) c.b := by rw [htk, marks_snoc, ← hM]
    have fz := v3.frz
    obtain ⟨d3, hd3⟩ : ∃ d, x.v 3 = d := ⟨_, rfl⟩
    rw [hd3] at fz
    have z1 : ∀ (e : List D) (h : Heap) (base : Nat) (ts hs : List HK) (wt : Nat), ([X.s 12, X.s 14].map (rd pg.gl e)) = [d3, D.int c.a] → dcore ⟨pg, 21, none⟩ (rc pg n) base ⟨⟨none, some 15, .inr (.fn 62 [(.s 12), (.s 14)])⟩, some ts, hs, wt, false⟩ e h = some (intsD (insF M c.a), h) :=
      fun e h base ts hs wt he => dcore_z (c := ⟨pg, 21, none⟩) s62 he (fz c.a) r1
    have hcan2 : D.canonL [intsD (insF M c.a), D.int c.b] = true := by simp [intsD, ints_canonL]
    simp only [intsD] at z1 r2 hcan2
    simp [k39l0, v6, v7, v8, hd3, hi, hc, clD, clC, D.cells, D.one, hfr, Nat.add_assoc, w1, z1, dcore_f, s62, hcan2, r2, ints_canonL]
    refine ⟨k - 1, by omega, _, _, i + 1, rfl, by omega, by simp [v6, clsD], by simp [v7], by simp, .inl (by simp [hsn, intsD]), ?_⟩
    repeat' first | exact hf | apply Heap.Fr.bump | apply Heap.Fr.set
    all_goals (simp <;> omega)
  · simp [k39l0, v7, v8, hi]
    exact ⟨_, _, i, rfl, by omega, by simp [v6, clsD], by simp [v7], by simp [v8], by simpa using v3, hf.bump _⟩
theorem rmarks_run (l : List Clm) (hlen : l.length ≤ 1000) {n : Nat} (hn : l.length + 2015 ≤ n) : pureCall (rc pg n) 39 [clsD l] = some (.ret (intsD (marksF l))) := by
  obtain ⟨m, rfl, e⟩ := body (pg := pg) (f := 39) (args := [clsD l]) (show 0 < n by omega) rfl rfl
  rw [e]
  simp [k39, Env.v_ini, clsD, ev_loop]
  refine Res.endsAfter (lp_rule 2010 (RI l) _ (rmarks_round l hlen) l.length m _ (by omega) ⟨_, _, 0, rfl, by omega, by simp [clsD], by simp, by simp, .inr ⟨by simp [marksF], by simp⟩, ?_⟩) ?_
  · repeat' first | exact Heap.Fr.empty | apply Heap.Fr.bump | apply Heap.Fr.set
  · rintro x s ⟨rfl, x, h, i, rfl, hi, v6, v7, v8, v3, hf⟩
    have hil : i = l.length := by omega
    subst hil
    rw [List.take_length] at v3
    rcases v3 with v3 | ⟨h1, v3⟩
    · simp only [intsD] at v3
      have hcan := fun h n => each_canon h n _ (ints_canonL (marksF l))
      simp [v3, hcan, intsD]
    · simp [v3, h1, intsD]
end Go.Proofs.YtiikbfpaahkhfaaDoor
/- Whether a list of claims is valid: by the program and by the document. -/
namespace Go.Proofs.YtiikbfpaahkhfaaDoor
open Go Go.Em
set_option maxRecDepth 100000
def chkF (l : List Clm) : Int := if 400 < l.length then 2 else if l.all okF = true then (if 64 < (marksF l).length then 2 else 0) else 20
theorem chk_ok {l : List Clm} (h : chkF l = 0) : l.length ≤ 400 ∧ (∀ c ∈ l, okF c = true) ∧ (marksF l).length ≤ 64 := by
  unfold chkF at h
  split at h
  · cases h
  · split at h
    · rename_i h1 h2
      split at h
      · cases h
      · exact ⟨by omega, List.all_eq_true.1 h2, by omega⟩
    · cases h
theorem all_take {l : List Clm} {i : Nat} (hi : i < l.length) (h : (l.take i).all okF = true) (hc : okF l[i] = true) : (l.take (i + 1)).all okF = true := by
  rw [List.take_add_one, List.getElem?_eq_getElem hi, List.all_append, h]
  simp [hc]
def CI (l : List Clm) (k : Nat) (s : St) : Prop := ∃ (x : Env 25) (h : Heap) (i : Nat), s = ⟨x.l, h, []⟩ ∧ i + k = l.length ∧ x.v 0 = clsD l ∧ x.v 9 = clsD l ∧ x.v 10 = D.int l.length ∧ x.v 11 = D.int i ∧ (l.take i).all okF = true ∧ h.Fr
def CQ (l : List Clm) (x : Ex) (s : St) : Prop := (x = .exit 0 ∧ CI l 0 s) ∨ (x = .ret ∧ l.all okF = false ∧ ∃ (x : Env 25) (h : Heap), s = ⟨x.l, h, []⟩ ∧ x.v 2 = D.int 20)
set_option maxHeartbeats 1000000 in
theorem chk_round (l : List Clm) (hlen : l.length ≤ 400) : ∀ n, 2 ≤ n → ∀ k s, CI l k s → Res (k30l0.ev ⟨pg, 25, none⟩ (rc pg n) s) (Rnd (CI l) (CQ l) k) := by
  rintro n hn k s ⟨x, h, i, rfl, hik, v0, v9, v10, v11, hok, hf⟩
  simp only [clsD] at v9
  by_cases hi : i < l.length
  · obtain ⟨c, hc⟩ : ∃ c, l[i] = c := ⟨_, rfl⟩
    have w1 : IntKind.i64.wrap ((i : Int) + 1) = (i : Int) + 1 := wrap_i64 (by omega) (by omega)
    have hfr : ∀ j, h.raw (h.next + j) = none := fun j => hf _ (by omega)
    have hck := fun h => call_of (h := h) (pg := pg) (f := 57) rfl (by simp [cl_canon]) (@ck_run c n hn)
    simp only [clD, clC] at hck
    cases hb : okF c with
    | true =>
      have e0 : ckF c = 0 := by unfold ckF; rw [hb]; rfl
      rw [e0] at hck
      simp [k30l0, v9, v10, v11, hi, hc, clD, clC, D.cells, D.one, hfr, Nat.add_assoc, w1, hck]
      refine ⟨k - 1, by omega, _, _, i + 1, rfl, by omega, by simp [v0], by simp [v9, clsD], by simp [v10], by simp, all_take hi hok (by rw [hc]; exact hb), ?_⟩
      repeat' first | exact hf | apply Heap.Fr.bump | apply Heap.Fr.set
      all_goals (simp <;> omega)
    | false =>
      have e0 : ckF c = 20 := by unfold ckF; rw [hb]; rfl
      rw [e0] at hck
      simp [k30l0, v9, v10, v11, hi, hc, clD, clC, D.cells, D.one, hfr, Nat.add_assoc, w1, hck]
      refine .inr ⟨rfl, ?_, _, _, rfl, by simp⟩
      rw [List.all_eq_false]
      exact ⟨c, by rw [← hc]; exact List.getElem_mem hi, by simp [hb]⟩
  · simp [k30l0, v10, v11, hi]
    exact .inl ⟨rfl, _, _, i, rfl, by omega, by simp [v0], by simp [v9, clsD], by simp [v10], by simp [v11], hok, hf.bump _⟩
set_option maxHeartbeats 1000000 in
theorem chk_run (l : List Clm) {n : Nat} (hn : 1000 ≤ n) : pureCall (rc pg n) 30 [clsD l] = some (.ret (D.int (chkF l))) := by
  obtain ⟨m, rfl, e⟩ := body (pg := pg) (f := 30) (args := [clsD l]) (show 0 < n by omega) rfl rfl
  rw [e]
  by_cases h0 : 400 < l.length
  · have h0' : (400 : Int) < l.length := by omega
    have e0 : chkF l = 2 := by unfold chkF; rw [if_pos h0]
    simp [k30, Env.v_ini, clsD, h0', e0]
  · have h0' : ¬ (400 : Int) < l.length := by omega
    simp [k30, Env.v_ini, clsD, h0', ev_loop]
    refine Res.endsAfter (lp_rule 2 (CI l) _ (chk_round l (by omega)) l.length m _ (by omega) ⟨_, _, 0, rfl, by omega, by simp [Env.v_ini, clsD], by simp [clsD], by simp, by simp, by simp, ?_⟩) ?_
    · repeat' first | exact Heap.Fr.empty | apply Heap.Fr.bump | apply Heap.Fr.set
    · rintro x s (⟨rfl, x, h, i, rfl, hi, v0, v9, v10, v11, hok, hf⟩ | ⟨rfl, hbad, x, h, rfl, v2⟩)
      · have hil : i = l.length := by omega
        subst hil
        rw [List.take_length] at hok
        have hm := fun h => call_of (h := h) (pg := pg) (f := 36) rfl (cls_canon l) (@marks_run l (fun c hc => ok_marks (List.all_eq_true.1 hok c hc)) (by omega) m (by omega))
        have hml := marks_len l
        simp only [clsD] at v0 hm
        by_cases h1 : 64 < (marksF l).length
        · have h1' : (64 : Int) < (marksF l).length := by omega
          have e0 : chkF l = 2 := by unfold chkF; rw [if_neg h0, if_pos hok, if_pos h1]
          simp [v0, hm, h1', e0]
        · have h1' : ¬ (64 : Int) < (marksF l).length := by omega
          have e0 : chkF l = 0 := by unfold chkF; rw [if_neg h0, if_pos hok, if_neg h1]
          simp [v0, hm, h1', e0]
      · have e0 : chkF l = 20 := by unfold chkF; rw [if_neg h0, if_neg (by rw [hbad]; simp)]
        simp [v2, e0]
def CI' (l : List Clm) (k : Nat) (s : St) : Prop := ∃ (x : Env 22) (h : Heap) (i : Nat), s = ⟨x.l, h, []⟩ ∧ i + k = l.length ∧ x.v 0 = clsD l ∧ x.v 8 = clsD l ∧ x.v 9 = D.int l.length ∧ x.v 10 = D.int i ∧ (l.take i).all okF = true ∧ h.Fr
def CQ' (l : List Clm) (x : Ex) (s : St) : Prop := (x = .exit 0 ∧ CI' l 0 s) ∨ (x = .ret ∧ l.all okF = false ∧ ∃ (x : Env 22) (h : Heap), s = ⟨x.l, h, []⟩ ∧ x.v 2 = D.int 20)
set_option maxHeartbeats 1000000 in
theorem rchk_round (l : List Clm) (hlen : l.length ≤ 400) : ∀ n, 2 ≤ n → ∀ k s, CI' l k s → Res (k33l0.ev ⟨pg, 22, none⟩ (rc pg n) s) (Rnd (CI' l) (CQ' l) k) := by
  rintro n hn k s ⟨x, h, i, rfl, hik, v0, v9, v10, v11, hok, hf⟩
  simp only [clsD] at v9
  by_cases hi : i < l.length
  · obtain ⟨c, hc⟩ : ∃ c, l[i] = c := ⟨_, rfl⟩
    have w1 : IntKind.i64.wrap ((i : Int) + 1) = (i : Int) + 1 := wrap_i64 (by omega) (by omega)
    have hfr : ∀ j, h.raw (h.next + j) = none := fun j => hf _ (by omega)
    have hck := fun h => call_of (h := h) (pg := pg) (f := 58) rfl (by simp [cl_canon]) (@rck_run c n hn)
    simp only [clD, clC] at hck
    cases hb : okF c with
    | true =>
      have e0 : ckF c = 0 := by unfold ckF; rw [hb]; rfl
      rw [e0] at hck
      simp [k33l0, v9, v10, v11, hi, hc, clD, clC, D.cells, D.one, hfr, Nat.add_assoc, w1, hck]
      refine ⟨k - 1, by omega, _, _, i + 1, rfl, by omega, by simp [v0], by simp [v9, clsD], by simp [v10], by simp, all_take hi hok (by rw [hc]; exact hb), ?_⟩
      repeat' first | exact hf | apply Heap.Fr.bump | apply Heap.Fr.set
      all_goals (simp <;> omega)
    | false =>
      have e0 : ckF c = 20 := by unfold ckF; rw [hb]; rfl
      rw [e0] at hck
      simp [k33l0, v9, v10, v11, hi, hc, clD, clC, D.cells, D.one, hfr, Nat.add_assoc, w1, hck]
      refine .inr ⟨rfl, ?_, _, _, rfl, by simp⟩
      rw [List.all_eq_false]
      exact ⟨c, by rw [← hc]; exact List.getElem_mem hi, by simp [hb]⟩
  · simp [k33l0, v10, v11, hi]
    exact .inl ⟨rfl, _, _, i, rfl, by omega, by simp [v0], by simp [v9, clsD], by simp [v10], by simp [v11], hok, hf.bump _⟩
set_option maxHeartbeats 1000000 in
theorem rchk_run (l : List Clm) {n : Nat} (hn : 3000 ≤ n) : pureCall (rc pg n) 33 [clsD l] = some (.ret (D.int (chkF l))) := by
  obtain ⟨m, rfl, e⟩ := body (pg := pg) (f := 33) (args := [clsD l]) (show 0 < n by omega) rfl rfl
  rw [e]
  by_cases h0 : 400 < l.length
  · have h0' : (400 : Int) < l.length := by omega
    have e0 : chkF l = 2 := by unfold chkF; rw [if_pos h0]
    simp [k33, Env.v_ini, clsD, h0', e0]
  · have h0' : ¬ (400 : Int) < l.length := by omega
    simp [k33, Env.v_ini, clsD, h0', ev_loop]
    refine Res.endsAfter (lp_rule 2 (CI' l) _ (rchk_round l (by omega)) l.length m _ (by omega) ⟨_, _, 0, rfl, by omega, by simp [Env.v_ini, clsD], by simp [clsD], by simp, by simp, by simp, ?_⟩) ?_
    · repeat' first | exact Heap.Fr.empty | apply Heap.Fr.bump | apply Heap.Fr.set
    · rintro x s (⟨rfl, x, h, i, rfl, hi, v0, v9, v10, v11, hok, hf⟩ | ⟨rfl, hbad, x, h, rfl, v2⟩)
      · have hil : i = l.length := by omega
        subst hil
        rw [List.take_length] at hok
        have hm := fun h => call_of (h := h) (pg := pg) (f := 39) rfl (cls_canon l) (@rmarks_run l (by omega) m (by omega))
        simp only [clsD, intsD] at v0 hm
        by_cases h1 : 64 < (marksF l).length
        · have h1' : (64 : Int) < (marksF l).length := by omega
          have e0 : chkF l = 2 := by unfold chkF; rw [if_neg h0, if_pos hok, if_pos h1]
          simp [v0, hm, h1', e0]
        · have h1' : ¬ (64 : Int) < (marksF l).length := by omega
          have e0 : chkF l = 0 := by unfold chkF; rw [if_neg h0, if_pos hok, if_neg h1]
          simp [v0, hm, h1', e0]
      · have e0 : chkF l = 20 := by unfold chkF; rw [if_neg h0, if_neg (by rw [hbad]; simp)]
        simp [v2, e0]
end Go.Proofs.YtiikbfpaahkhfaaDoor
