/- Where a chain leads, and what it shows: by the program and by the document. -/
import Derived.Test.YtiikbfpaahkhfaaDoorWith
namespace Go.Proofs.YtiikbfpaahkhfaaDoor
open Go Go.Em
set_option maxRecDepth 100000
structure Stp where
  c : Int
  back : Bool
def stC (s : Stp) : List D := [D.int s.c, D.bool s.back]
def stD (s : Stp) : D := .agg (stC s)
def stsD (l : List Stp) : D := .sl false (l.map stD)
theorem st_canon (s : Stp) : (stD s).canon = true := by simp [stD, stC]
theorem sts_canon (l : List Stp) : D.canonL (l.map stD) = true := canonL_map stD st_canon l
def endA (c : Clm) (b : Bool) : Int := if b = true then c.b else c.a
def endB (c : Clm) (b : Bool) : Int := if b = true then c.a else c.b
def endN (c : Clm) (b : Bool) : Int := if b = true then -c.lo else c.hi
theorem along_run (c : Clm) (hc : okF c = true) (b : Bool) {n : Nat} (hn : 1 ≤ n) : pureCall (rc pg n) 32 [clD c, D.bool b] = some (.ret (.tup [D.int (endA c b), D.int (endB c b), D.int (endN c b)])) := by
  obtain ⟨m, rfl, e⟩ := body (pg := pg) (f := 32) (args := [clD c, D.bool b]) (show 0 < n by omega) rfl rfl
  rw [e]
  have h := ok_years hc
  have w1 : IntKind.i64.wrap (-c.lo) = -c.lo := wrap_i64 (by omega) (by omega)
  cases b <;> simp [k32, Env.v_ini, clD, clC, D.cells, D.one, endA, endB, endN, w1]
theorem ends_run (c : Clm) (hc : okF c = true) (b : Bool) {n : Nat} (hn : 1 ≤ n) : pureCall (rc pg n) 35 [clD c, D.bool b] = some (.ret (.tup [D.int (endA c b), D.int (endB c b), D.int (endN c b)])) := by
  obtain ⟨m, rfl, e⟩ := body (pg := pg) (f := 35) (args := [clD c, D.bool b]) (show 0 < n by omega) rfl rfl
  rw [e]
  have h := ok_years hc
  have w1 : IntKind.i64.wrap (-c.lo) = -c.lo := wrap_i64 (by omega) (by omega)
  cases b <;> simp [k35, Env.v_ini, clD, clC, D.cells, D.one, endA, endB, endN, w1]
abbrev W3 := Int × Int × Int
/-- The first so many steps of a chain. -/
def walkTo (l : List Clm) (ch : List Stp) : Nat → Option W3
  | 0 => some (0, 0, 0)
  | i + 1 => match walkTo l ch i, ch[i]? with
    | some (f, t, m), some s => if inR s.c 0 (l.length - 1) = true then (match l[s.c.toNat]? with
      | some c => if i = 0 then some (endA c s.back, endB c s.back, m + endN c s.back) else if endA c s.back ≠ t then none else some (f, endB c s.back, m + endN c s.back)
      | none => none) else none
    | _, _ => none
theorem walk_none {l : List Clm} {ch : List Stp} {i : Nat} (h : walkTo l ch i = none) : ∀ j, walkTo l ch (i + j) = none
  | 0 => h
  | j + 1 => by
    show walkTo l ch (i + j + 1) = none
    unfold walkTo
    rw [walk_none h j]
theorem walk_step {l : List Clm} {ch : List Stp} {i : Nat} {f t mm : Int} {s : Stp} (hw : walkTo l ch i = some (f, t, mm)) (hg : ch[i]? = some s) : walkTo l ch (i + 1) = if inR s.c 0 (l.length - 1) = true then (match l[s.c.toNat]? with
      | some c => if i = 0 then some (endA c s.back, endB c s.back, mm + endN c s.back) else if endA c s.back ≠ t then none else some (f, endB c s.back, mm + endN c s.back)
      | none => none) else none := by
  conv => lhs; unfold walkTo
  rw [hw, hg]
def walkF (l : List Clm) (ch : List Stp) : W3 × Int :=
  if chkF l ≠ 0 then ((0, 0, 0), chkF l) else if 400 < ch.length then ((0, 0, 0), 2) else if ch.length = 0 then ((0, 0, 0), 21) else match walkTo l ch ch.length with
    | some w => (w, 0)
    | none => ((0, 0, 0), 21)
def w4 (p : W3 × Int) : D := .tup [D.int p.1.1, D.int p.1.2.1, D.int p.1.2.2, D.int p.2]
def KI (l : List Clm) (ch : List Stp) (k : Nat) (s : St) : Prop := ∃ (x : Env 65) (h : Heap) (i : Nat) (f t m : Int), s = ⟨x.l, h, []⟩ ∧ i + k = ch.length ∧ x.v 0 = clsD l ∧ x.v 25 = stsD ch ∧ x.v 26 = D.int ch.length ∧ x.v 27 = D.int i ∧
  walkTo l ch i = some (f, t, m) ∧ x.v 4 = D.int f ∧ x.v 5 = D.int t ∧ x.v 6 = D.int m ∧ (-100000 * i ≤ m ∧ m ≤ 100000 * i) ∧ h.Fr
def KQ (l : List Clm) (ch : List Stp) (x : Ex) (s : St) : Prop := (x = .exit 0 ∧ KI l ch 0 s) ∨ (x = .ret ∧ walkTo l ch ch.length = none ∧ ∃ (x : Env 65) (h : Heap), s = ⟨x.l, h, []⟩ ∧ x.v 4 = D.int 0 ∧ x.v 5 = D.int 0 ∧ x.v 6 = D.int 0 ∧ x.v 7 = D.int 21)
theorem walk_fail {l : List Clm} {ch : List Stp} {i : Nat} (hi : i < ch.length) (h : walkTo l ch (i + 1) = none) : walkTo l ch ch.length = none := by
  have := walk_none h (ch.length - (i + 1))
  rwa [show i + 1 + (ch.length - (i + 1)) = ch.length by omega] at this
set_option maxHeartbeats 4000000 in
theorem walk_round (l : List Clm) (hl : chkF l = 0) (ch : List Stp) (hch : ch.length ≤ 400) : ∀ n, 2 ≤ n → ∀ k s, KI l ch k s → Res (k11l0.ev ⟨pg, 65, none⟩ (rc pg n) s) (Rnd (KI l ch) (KQ l ch) k) := by
  rintro n hn k s ⟨x, h, i, f, t, mm, rfl, hik, v0, v25, v26, v27, hw, v4, v5, v6, hm, hf⟩
  obtain ⟨hl1, hl2, _⟩ := chk_ok hl
  simp only [clsD] at v0
  simp only [stsD] at v25
  by_cases hi : i < ch.length
  · obtain ⟨s, hs⟩ : ∃ s, ch[i] = s := ⟨_, rfl⟩
    have hg : ch[i]? = some s := by rw [List.getElem?_eq_getElem hi, hs]
    have w1 : IntKind.i64.wrap ((i : Int) + 1) = (i : Int) + 1 := wrap_i64 (by omega) (by omega)
    have w2 : IntKind.i64.wrap ((l.length : Int) - 1) = (l.length : Int) - 1 := wrap_i64 (by omega) (by omega)
    have hfr : ∀ j, h.raw (h.next + j) = none := fun j => hf _ (by omega)
    have hin := fun h => @within_run n (by omega) s.c 0 ((l.length : Int) - 1) h
    have s32 : pg.sh 32 = false := rfl
    have hstep := walk_step hw hg
    cases hr : inR s.c 0 (l.length - 1) with
    | false =>
      rw [hr] at hin
      rw [hr, if_neg (by simp)] at hstep
      simp [k11l0, v0, v25, v26, v27, hi, hs, stD, stC, D.cells, D.one, hfr, Nat.add_assoc, w1, w2, hin]
      exact .inr ⟨rfl, walk_fail hi hstep, _, _, rfl, by simp, by simp, by simp, by simp⟩
    | true =>
      rw [hr] at hin
      rw [hr, if_pos rfl] at hstep
      have hrr := hr
      rw [inR_eq] at hrr
      simp only [Bool.and_eq_true, decide_eq_true_eq] at hrr
      obtain ⟨q, hq⟩ : ∃ q : Nat, s.c = q := ⟨s.c.toNat, by omega⟩
      have hql : q < l.length := by omega
      obtain ⟨c, hc⟩ : ∃ c, l[q] = c := ⟨_, rfl⟩
      have hco : okF c = true := hl2 c (by rw [← hc]; exact List.getElem_mem hql)
      have hcy := ok_years hco
      rw [hq, Int.toNat_natCast, List.getElem?_eq_getElem hql, hc] at hstep
      simp only at hstep
      have hal := @along_run c hco s.back n (by omega)
      rw [hq] at hin
      have hnb : -100000 ≤ endN c s.back ∧ endN c s.back ≤ 100000 := by unfold endN; split <;> omega
      have w3 : IntKind.i64.wrap (mm + endN c s.back) = mm + endN c s.back := wrap_i64 (by omega) (by omega)
      have hcan : D.canonL [clD c, D.bool s.back] = true := by simp [cl_canon]
      simp only [clD, clC] at hal hcan
      by_cases h0 : i = 0
      · have h0' : ((i : Int) == 0) = true := by simp [h0]
        rw [if_pos h0] at hstep
        simp [k11l0, v0, v25, v26, v27, v6, hi, hs, hq, stD, stC, clD, clC, D.cells, D.one, hfr, Nat.add_assoc, w1, w2, hin, hql, hc, dcore_f, s32, hal, h0', w3]
        refine ⟨k - 1, by omega, _, _, i + 1, _, _, _, rfl, by omega, by simp [v0, clsD], by simp [v25, stsD], by simp [v26], by simp, hstep, by simp, by simp, by simp, by omega, ?_⟩
        repeat' first | exact hf | apply Heap.Fr.bump | apply Heap.Fr.set
        all_goals (simp <;> omega)
      · have h0' : ((i : Int) == 0) = false := by simp [h0]
        rw [if_neg h0] at hstep
        by_cases h1 : endA c s.back = t
        · rw [if_neg (by simp [h1])] at hstep
          have h1' : (endA c s.back != t) = false := by simp [h1]
          simp [k11l0, v0, v25, v26, v27, v4, v5, v6, hi, hs, hq, stD, stC, clD, clC, D.cells, D.one, hfr, Nat.add_assoc, w1, w2, hin, hql, hc, dcore_f, s32, hal, h0', h1', w3]
          refine ⟨k - 1, by omega, _, _, i + 1, _, _, _, rfl, by omega, by simp [v0, clsD], by simp [v25, stsD], by simp [v26], by simp, hstep, by simp [v4], by simp, by simp, by omega, ?_⟩
          repeat' first | exact hf | apply Heap.Fr.bump | apply Heap.Fr.set
          all_goals (simp <;> omega)
        · rw [if_pos (by simpa using h1)] at hstep
          have h1' : (endA c s.back != t) = true := by simpa using h1
          simp [k11l0, v0, v25, v26, v27, v5, hi, hs, hq, stD, stC, clD, clC, D.cells, D.one, hfr, Nat.add_assoc, w1, w2, hin, hql, hc, dcore_f, s32, hal, h0', h1']
          exact .inr ⟨rfl, walk_fail hi hstep, _, _, rfl, by simp, by simp, by simp, by simp⟩
  · simp [k11l0, v26, v27, hi]
    exact .inl ⟨rfl, _, _, i, f, t, mm, rfl, by omega, by simp [v0, clsD], by simp [v25, stsD], by simp [v26], by simp [v27], hw, by simp [v4], by simp [v5], by simp [v6], hm, hf.bump _⟩
end Go.Proofs.YtiikbfpaahkhfaaDoor
/- Where a chain leads: the functions. -/
namespace Go.Proofs.YtiikbfpaahkhfaaDoor
open Go Go.Em
set_option maxRecDepth 100000
def KI2 (l : List Clm) (ch : List Stp) (k : Nat) (s : St) : Prop := ∃ (x : Env 68) (h : Heap) (i : Nat) (f t m : Int), s = ⟨x.l, h, []⟩ ∧ i + k = ch.length ∧ x.v 0 = clsD l ∧ x.v 28 = stsD ch ∧ x.v 29 = D.int ch.length ∧ x.v 30 = D.int i ∧
  walkTo l ch i = some (f, t, m) ∧ x.v 9 = D.int f ∧ x.v 10 = D.int t ∧ x.v 11 = D.int m ∧ (-100000 * i ≤ m ∧ m ≤ 100000 * i) ∧ h.Fr
def KQ2 (l : List Clm) (ch : List Stp) (x : Ex) (s : St) : Prop := (x = .exit 0 ∧ KI2 l ch 0 s) ∨ (x = .ret ∧ walkTo l ch ch.length = none ∧ ∃ (x : Env 68) (h : Heap), s = ⟨x.l, h, []⟩ ∧ x.v 4 = D.int 0 ∧ x.v 5 = D.int 0 ∧ x.v 6 = D.int 0 ∧ x.v 7 = D.int 21)
set_option maxHeartbeats 4000000 in
theorem rwalk_round (l : List Clm) (hl : chkF l = 0) (ch : List Stp) (hch : ch.length ≤ 400) : ∀ n, 2 ≤ n → ∀ k s, KI2 l ch k s → Res (k12l0.ev ⟨pg, 68, none⟩ (rc pg n) s) (Rnd (KI2 l ch) (KQ2 l ch) k) := by
  rintro n hn k s ⟨x, h, i, f, t, mm, rfl, hik, v0, v25, v26, v27, hw, v4, v5, v6, hm, hf⟩
  obtain ⟨hl1, hl2, _⟩ := chk_ok hl
  simp only [clsD] at v0
  simp only [stsD] at v25
  by_cases hi : i < ch.length
  · obtain ⟨s, hs⟩ : ∃ s, ch[i] = s := ⟨_, rfl⟩
    have hg : ch[i]? = some s := by rw [List.getElem?_eq_getElem hi, hs]
    have w1 : IntKind.i64.wrap ((i : Int) + 1) = (i : Int) + 1 := wrap_i64 (by omega) (by omega)
    have w2 : IntKind.i64.wrap ((l.length : Int) - 1) = (l.length : Int) - 1 := wrap_i64 (by omega) (by omega)
    have hfr : ∀ j, h.raw (h.next + j) = none := fun j => hf _ (by omega)
    have hin := fun h => @rwithin_run n (by omega) s.c 0 ((l.length : Int) - 1) h
    have s32 : pg.sh 35 = false := rfl
    have hstep := walk_step hw hg
    cases hr : inR s.c 0 (l.length - 1) with
    | false =>
      rw [hr] at hin
      rw [hr, if_neg (by simp)] at hstep
      simp [k12l0, v0, v25, v26, v27, hi, hs, stD, stC, D.cells, D.one, hfr, Nat.add_assoc, w1, w2, hin]
      exact .inr ⟨rfl, walk_fail hi hstep, _, _, rfl, by simp, by simp, by simp, by simp⟩
    | true =>
      rw [hr] at hin
      rw [hr, if_pos rfl] at hstep
      have hrr := hr
      rw [inR_eq] at hrr
      simp only [Bool.and_eq_true, decide_eq_true_eq] at hrr
      obtain ⟨q, hq⟩ : ∃ q : Nat, s.c = q := ⟨s.c.toNat, by omega⟩
      have hql : q < l.length := by omega
      obtain ⟨c, hc⟩ : ∃ c, l[q] = c := ⟨_, rfl⟩
      have hco : okF c = true := hl2 c (by rw [← hc]; exact List.getElem_mem hql)
      have hcy := ok_years hco
      rw [hq, Int.toNat_natCast, List.getElem?_eq_getElem hql, hc] at hstep
      simp only at hstep
      have hal := @ends_run c hco s.back n (by omega)
      rw [hq] at hin
      have hnb : -100000 ≤ endN c s.back ∧ endN c s.back ≤ 100000 := by unfold endN; split <;> omega
      have w3 : IntKind.i64.wrap (mm + endN c s.back) = mm + endN c s.back := wrap_i64 (by omega) (by omega)
      have hcan : D.canonL [clD c, D.bool s.back] = true := by simp [cl_canon]
      simp only [clD, clC] at hal hcan
      by_cases h0 : i = 0
      · have h0' : ((i : Int) == 0) = true := by simp [h0]
        rw [if_pos h0] at hstep
        simp [k12l0, v0, v25, v26, v27, v6, hi, hs, hq, stD, stC, clD, clC, D.cells, D.one, hfr, Nat.add_assoc, w1, w2, hin, hql, hc, dcore_f, s32, hal, h0', w3]
        refine ⟨k - 1, by omega, _, _, i + 1, _, _, _, rfl, by omega, by simp [v0, clsD], by simp [v25, stsD], by simp [v26], by simp, hstep, by simp, by simp, by simp, by omega, ?_⟩
        repeat' first | exact hf | apply Heap.Fr.bump | apply Heap.Fr.set
        all_goals (simp <;> omega)
      · have h0' : ((i : Int) == 0) = false := by simp [h0]
        rw [if_neg h0] at hstep
        by_cases h1 : endA c s.back = t
        · rw [if_neg (by simp [h1])] at hstep
          have h1' : (endA c s.back != t) = false := by simp [h1]
          simp [k12l0, v0, v25, v26, v27, v4, v5, v6, hi, hs, hq, stD, stC, clD, clC, D.cells, D.one, hfr, Nat.add_assoc, w1, w2, hin, hql, hc, dcore_f, s32, hal, h0', h1', w3]
          refine ⟨k - 1, by omega, _, _, i + 1, _, _, _, rfl, by omega, by simp [v0, clsD], by simp [v25, stsD], by simp [v26], by simp, hstep, by simp [v4], by simp, by simp, by omega, ?_⟩
          repeat' first | exact hf | apply Heap.Fr.bump | apply Heap.Fr.set
          all_goals (simp <;> omega)
        · rw [if_pos (by simpa using h1)] at hstep
          have h1' : (endA c s.back != t) = true := by simpa using h1
          simp [k12l0, v0, v25, v26, v27, v5, hi, hs, hq, stD, stC, clD, clC, D.cells, D.one, hfr, Nat.add_assoc, w1, w2, hin, hql, hc, dcore_f, s32, hal, h0', h1']
          exact .inr ⟨rfl, walk_fail hi hstep, _, _, rfl, by simp, by simp, by simp, by simp⟩
  · simp [k12l0, v26, v27, hi]
    exact .inl ⟨rfl, _, _, i, f, t, mm, rfl, by omega, by simp [v0, clsD], by simp [v25, stsD], by simp [v26], by simp [v27], hw, by simp [v4], by simp [v5], by simp [v6], hm, hf.bump _⟩
theorem stp_canon (l : List Clm) (ch : List Stp) : D.canonL [clsD l, stsD ch] = true := by simp [clsD, stsD, sts_canon, canonL_map clD cl_canon l]
set_option maxHeartbeats 4000000 in
theorem walk_run (l : List Clm) (ch : List Stp) {n : Nat} (hn : 1500 ≤ n) : pureCall (rc pg n) 11 [clsD l, stsD ch] = some (.ret (w4 (walkF l ch))) := by
  obtain ⟨m, rfl, e⟩ := body (pg := pg) (f := 11) (args := [clsD l, stsD ch]) (show 0 < n by omega) rfl rfl
  rw [e]
  have hck := fun h => call_of (h := h) (pg := pg) (f := 30) rfl (cls_canon l) (@chk_run l m (by omega))
  simp only [clsD] at hck
  by_cases h0 : chkF l = 0
  · rw [h0] at hck
    by_cases h1 : 400 < ch.length
    · have h1' : (400 : Int) < ch.length := by omega
      have e0 : walkF l ch = ((0, 0, 0), 2) := by unfold walkF; rw [if_neg (by simpa using h0), if_pos h1]
      simp [k11, Env.v_ini, clsD, stsD, hck, h1', e0, w4]
    · have h1' : ¬ (400 : Int) < ch.length := by omega
      by_cases h2 : ch.length = 0
      · have h2' : ((ch.length : Int) == 0) = true := by simp [h2]
        have e0 : walkF l ch = ((0, 0, 0), 21) := by unfold walkF; rw [if_neg (by simpa using h0), if_neg h1, if_pos h2]
        simp [-beq_iff_eq, k11, Env.v_ini, clsD, stsD, hck, h1', h2', e0, w4]
      · have h2' : ((ch.length : Int) == 0) = false := by simp; intro hh; exact h2 (by rw [hh]; rfl)
        simp [-beq_iff_eq, k11, Env.v_ini, clsD, stsD, hck, h1', h2', ev_loop]
        refine Res.endsAfter (lp_rule 2 (KI l ch) _ (walk_round l h0 ch (by omega)) ch.length m _ (by omega) ⟨_, _, 0, 0, 0, 0, rfl, by omega, by simp [Env.v_ini, clsD], by simp [stsD], by simp, by simp, rfl, by simp, by simp, by simp, by omega, ?_⟩) ?_
        · repeat' first | exact Heap.Fr.empty | apply Heap.Fr.bump | apply Heap.Fr.set
        · rintro x s (⟨rfl, x, h, i, f, t, mm, rfl, hi, v0, v25, v26, v27, hw, v4, v5, v6, hm, hf⟩ | ⟨rfl, hw, x, h, rfl, v4, v5, v6, v7⟩)
          · have hil : i = ch.length := by omega
            subst hil
            have e0 : walkF l ch = ((f, t, mm), 0) := by unfold walkF; rw [if_neg (by simpa using h0), if_neg h1, if_neg h2, hw]
            simp [v4, v5, v6, e0, w4]
          · have e0 : walkF l ch = ((0, 0, 0), 21) := by unfold walkF; rw [if_neg (by simpa using h0), if_neg h1, if_neg h2, hw]
            simp [v4, v5, v6, v7, e0, w4]
  · have h0' : (chkF l != 0) = true := by simpa using h0
    have e0 : walkF l ch = ((0, 0, 0), chkF l) := by unfold walkF; rw [if_pos h0]
    simp [k11, Env.v_ini, clsD, stsD, hck, h0', e0, w4]
set_option maxHeartbeats 4000000 in
theorem rwalk_run (l : List Clm) (ch : List Stp) {n : Nat} (hn : 3500 ≤ n) : pureCall (rc pg n) 12 [clsD l, stsD ch] = some (.ret (w4 (walkF l ch))) := by
  obtain ⟨m, rfl, e⟩ := body (pg := pg) (f := 12) (args := [clsD l, stsD ch]) (show 0 < n by omega) rfl rfl
  rw [e]
  have hck := fun h => call_of (h := h) (pg := pg) (f := 33) rfl (cls_canon l) (@rchk_run l m (by omega))
  simp only [clsD] at hck
  by_cases h0 : chkF l = 0
  · rw [h0] at hck
    by_cases h1 : 400 < ch.length
    · have h1' : (400 : Int) < ch.length := by omega
      have e0 : walkF l ch = ((0, 0, 0), 2) := by unfold walkF; rw [if_neg (by simpa using h0), if_pos h1]
      simp [k12, Env.v_ini, clsD, stsD, hck, h1', e0, w4]
    · have h1' : ¬ (400 : Int) < ch.length := by omega
      by_cases h2 : ch.length = 0
      · have h2' : ((ch.length : Int) == 0) = true := by simp [h2]
        have e0 : walkF l ch = ((0, 0, 0), 21) := by unfold walkF; rw [if_neg (by simpa using h0), if_neg h1, if_pos h2]
        simp [-beq_iff_eq, k12, Env.v_ini, clsD, stsD, hck, h1', h2', e0, w4]
      · have h2' : ((ch.length : Int) == 0) = false := by simp; intro hh; exact h2 (by rw [hh]; rfl)
        simp [-beq_iff_eq, k12, Env.v_ini, clsD, stsD, hck, h1', h2', ev_loop]
        refine Res.endsAfter (lp_rule 2 (KI2 l ch) _ (rwalk_round l h0 ch (by omega)) ch.length m _ (by omega) ⟨_, _, 0, 0, 0, 0, rfl, by omega, by simp [Env.v_ini, clsD], by simp [stsD], by simp, by simp, rfl, by simp, by simp, by simp, by omega, ?_⟩) ?_
        · repeat' first | exact Heap.Fr.empty | apply Heap.Fr.bump | apply Heap.Fr.set
        · rintro x s (⟨rfl, x, h, i, f, t, mm, rfl, hi, v0, v25, v26, v27, hw, v4, v5, v6, hm, hf⟩ | ⟨rfl, hw, x, h, rfl, v4, v5, v6, v7⟩)
          · have hil : i = ch.length := by omega
            subst hil
            have e0 : walkF l ch = ((f, t, mm), 0) := by unfold walkF; rw [if_neg (by simpa using h0), if_neg h1, if_neg h2, hw]
            simp [v4, v5, v6, e0, w4]
          · have e0 : walkF l ch = ((0, 0, 0), 21) := by unfold walkF; rw [if_neg (by simpa using h0), if_neg h1, if_neg h2, hw]
            simp [v4, v5, v6, v7, e0, w4]
  · have h0' : (chkF l != 0) = true := by simpa using h0
    have e0 : walkF l ch = ((0, 0, 0), chkF l) := by unfold walkF; rw [if_pos h0]
    simp [k12, Env.v_ini, clsD, stsD, hck, h0', e0, w4]
def cycF (l : List Clm) (ch : List Stp) : Int := if (walkF l ch).2 ≠ 0 then (walkF l ch).2 else if (walkF l ch).1.1 ≠ (walkF l ch).1.2.1 ∨ 0 ≤ (walkF l ch).1.2.2 then 21 else 0
set_option maxHeartbeats 2000000 in
theorem cyc_run (l : List Clm) (ch : List Stp) {n : Nat} (hn : 1600 ≤ n) : pureCall (rc pg n) 13 [clsD l, stsD ch] = some (.ret (D.int (cycF l ch))) := by
  obtain ⟨m, rfl, e⟩ := body (pg := pg) (f := 13) (args := [clsD l, stsD ch]) (show 0 < n by omega) rfl rfl
  rw [e]
  have hw := fun h => call_of (h := h) (pg := pg) (f := 11) rfl (stp_canon l ch) (@walk_run l ch m (by omega))
  obtain ⟨⟨⟨a, b, c⟩, q⟩, hp⟩ : ∃ p, walkF l ch = p := ⟨_, rfl⟩
  unfold cycF
  rw [hp] at hw ⊢
  simp only [clsD, stsD, w4] at hw
  cases h0 : (q != 0) with
  | true =>
    have h0' : q ≠ 0 := by simpa using h0
    simp [k13, Env.v_ini, clsD, stsD, hw, h0, h0']
  | false =>
    have h0' : q = 0 := by simpa using h0
    subst h0'
    cases h1 : (a != b) with
    | true =>
      have h1' : a ≠ b := by simpa using h1
      simp [k13, Env.v_ini, clsD, stsD, hw, h1, h1']
    | false =>
      have h1' : a = b := by simpa using h1
      by_cases h2 : 0 ≤ c
      · simp [k13, Env.v_ini, clsD, stsD, hw, h1, h1', h2]
      · simp [k13, Env.v_ini, clsD, stsD, hw, h1, h1', h2]
set_option maxHeartbeats 2000000 in
theorem rcyc_run (l : List Clm) (ch : List Stp) {n : Nat} (hn : 3600 ≤ n) : pureCall (rc pg n) 14 [clsD l, stsD ch] = some (.ret (D.int (cycF l ch))) := by
  obtain ⟨m, rfl, e⟩ := body (pg := pg) (f := 14) (args := [clsD l, stsD ch]) (show 0 < n by omega) rfl rfl
  rw [e]
  have hw := fun h => call_of (h := h) (pg := pg) (f := 12) rfl (stp_canon l ch) (@rwalk_run l ch m (by omega))
  obtain ⟨⟨⟨a, b, c⟩, q⟩, hp⟩ : ∃ p, walkF l ch = p := ⟨_, rfl⟩
  unfold cycF
  rw [hp] at hw ⊢
  simp only [clsD, stsD, w4] at hw
  cases h0 : (q == 0) with
  | false =>
    have h0' : q ≠ 0 := by simpa using h0
    simp [-beq_iff_eq, k14, Env.v_ini, clsD, stsD, hw, h0, h0']
  | true =>
    have h0' : q = 0 := by simpa using h0
    subst h0'
    cases h1 : (a != b) with
    | true =>
      have h1' : a ≠ b := by simpa using h1
      simp [k14, Env.v_ini, clsD, stsD, hw, h1, h1']
    | false =>
      have h1' : a = b := by simpa using h1
      by_cases h2 : 0 ≤ c
      · simp [k14, Env.v_ini, clsD, stsD, hw, h1, h1', h2]
      · simp [k14, Env.v_ini, clsD, stsD, hw, h1, h1', h2]
set_option maxHeartbeats 4000000 in
theorem walks_law (l : List Clm) (ch : List Stp) {n : Nat} (hn : 4000 ≤ n) : pureCall (rc pg n) 4 [clsD l, stsD ch] = some (.ret (D.bool true)) := by
  obtain ⟨m, rfl, e⟩ := body (pg := pg) (f := 4) (args := [clsD l, stsD ch]) (show 0 < n by omega) rfl rfl
  rw [e]
  have w1 := fun h => call_of (h := h) (pg := pg) (f := 11) rfl (stp_canon l ch) (@walk_run l ch m (by omega))
  have w2 := fun h => call_of (h := h) (pg := pg) (f := 12) rfl (stp_canon l ch) (@rwalk_run l ch m (by omega))
  have w3 := fun h => call_of (h := h) (pg := pg) (f := 13) rfl (stp_canon l ch) (@cyc_run l ch m (by omega))
  have w4' := fun h => call_of (h := h) (pg := pg) (f := 14) rfl (stp_canon l ch) (@rcyc_run l ch m (by omega))
  have hs := fun h => @sane_call m (by omega) h
  obtain ⟨⟨⟨a, b, c⟩, q⟩, hp⟩ : ∃ p, walkF l ch = p := ⟨_, rfl⟩
  rw [hp] at w1 w2
  simp only [clsD, stsD, w4] at w1 w2 w3 w4'
  simp [k4, Env.v_ini, clsD, stsD, w1, w2, w3, w4', hs]
end Go.Proofs.YtiikbfpaahkhfaaDoor
