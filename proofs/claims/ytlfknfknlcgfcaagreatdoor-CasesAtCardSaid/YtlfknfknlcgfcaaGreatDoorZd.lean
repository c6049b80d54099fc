/- Claims and worlds are equal to themselves, by the document. -/
import Derived.Test.YtlfknfknlcgfcaaGreatDoorZa
import Derived.Test.YtlfknfknlcgfcaaGreatDoorWo1
import Derived.Test.YtlfknfknlcgfcaaGreatDoorZa
namespace Go.Proofs.YtlfknfknlcgfcaaGreatDoor
open Go Go.Em
set_option maxRecDepth 100000
set_option maxHeartbeats 2000000 in
theorem same_round (l : List Clm) (hl : l.length ≤ 20000000000000) : ∀ n, 0 ≤ n → ∀ k s, EI l k s → Res (k17l0.ev ⟨pg, 26, none⟩ (rc pg n) s) (Rnd (EI l) (fun x s => x = .exit 0 ∧ EI l 0 s) k) := by
  rintro n hn k s ⟨x, h, i, rfl, hik, v0, v1, v12, v13⟩
  simp only [clsD] at v0 v1
  by_cases hi : i < l.length
  · obtain ⟨c, hc⟩ : ∃ c, l[i] = c := ⟨_, rfl⟩
    have w1 : IntKind.i64.wrap ((i : Int) + 1) = (i : Int) + 1 := wrap_i64 (by omega) (by omega)
    simp [k17l0, v0, v1, v12, v13, hi, hc, clD, clC, D.cells, w1]
    exact ⟨k - 1, by omega, _, _, i + 1, rfl, by omega, by simp [v0, clsD], by simp [v1, clsD], by simp [v12], by simp⟩
  · simp [k17l0, v12, v13, hi]
    exact ⟨_, _, i, rfl, by omega, by simp [v0, clsD], by simp [v1, clsD], by simp [v12], by simp [v13]⟩
theorem same_run (l : List Clm) (hl : l.length ≤ 20000000000000) {n : Nat} (hn : l.length + 5 ≤ n) : pureCall (rc pg n) 17 [clsD l, clsD l] = some (.ret (D.bool true)) := by
  obtain ⟨m, rfl, e⟩ := body (pg := pg) (f := 17) (args := [clsD l, clsD l]) (show 0 < n by omega) rfl rfl
  rw [e]
  simp [k17, Env.v_ini, clsD, ev_loop]
  refine Res.endsAfter (lp_rule 0 (EI l) _ (same_round l hl) l.length m _ (by omega) ⟨_, _, 0, rfl, by omega, by simp [Env.v_ini, clsD], by simp [Env.v_ini, clsD], by simp, by simp⟩) ?_
  rintro x s ⟨rfl, x, h, i, rfl, hi, v0, v1, v12, v13⟩
  simp
def ZdI (q : Qst) (x0 : Env 74) (k6 k7 : Nat) (k : Nat) (s : St) : Prop := ∃ (x : Env 74) (h : Heap) (i : Nat), s = ⟨x.l, h, []⟩ ∧ i + k = q.ch.length ∧ (∀ j, j = 2 ∨ j = 3 ∨ j = 26 ∨ j = 27 → x.v j = x0.v j) ∧ x.v 6 = .ptr k6 0 ∧ x.v 7 = .ptr k7 0 ∧ x.v 56 = D.int q.ch.length ∧ x.v 57 = D.int i ∧ h.get k6 = some (.cells 83 (qC q)) ∧ k6 < h.next ∧ h.get k7 = some (.cells 83 (qC q)) ∧ k7 < h.next ∧ h.Fr
def ZdH (h0 : Heap) (s : St) : Prop := ∃ h, s.h = h ∧ h0.next ≤ h.next ∧ ∀ j, j < h0.next → h.get j = h0.get j
set_option maxHeartbeats 2000000 in
theorem zd_round (q : Qst) (h0 : Heap) (x0 : Env 74) (k6 k7 M : Nat) (hM : ∀ l ∈ q.ch, l.length ≤ M) (hM2 : M ≤ 20000000000000) (hq : q.ch.length ≤ 20000000000000) : ∀ n, M + 5 ≤ n → ∀ k s, (ZdI q x0 k6 k7 k s ∧ ZdH h0 s) → Res (k18l0.ev ⟨pg, 74, none⟩ (rc pg n) s) (Rnd (fun k s => ZdI q x0 k6 k7 k s ∧ ZdH h0 s) (fun x s => x = .exit 2 ∧ ZdI q x0 k6 k7 0 s ∧ ZdH h0 s) k) := by
  rintro n hn k s ⟨⟨x, h, i, rfl, hik, vs, v6, v7, v56, v57, g6, l6, g7, l7, hf⟩, h', rfl, u1, u2⟩
  simp only [qC, chD] at g6 g7
  simp only at u1 u2
  by_cases hi : i < q.ch.length
  · obtain ⟨l, hl⟩ : ∃ l, q.ch[i] = l := ⟨_, rfl⟩
    have hlm : l.length ≤ M := hM l (by rw [← hl]; exact List.getElem_mem hi)
    have w1 : IntKind.i64.wrap ((i : Int) + 1) = (i : Int) + 1 := wrap_i64 (by omega) (by omega)
    have r17 := @same_run l (by omega) n (by omega)
    have s17 : pg.sh 17 = false := rfl
    have hcan : D.canonL [clsD l, clsD l] = true := by simp [cls_canon1]
    simp only [clsD] at r17 hcan
    simp [k18l0, v6, v7, v56, v57, g6, g7, hi, hl, clsD, D.cells, w1, dcore_f, s17, hcan, r17]
    refine ⟨k - 1, by omega, ⟨_, _, i + 1, rfl, by omega, fun j hj => ?_, by simp [v6], by simp [v7], by simp [v56], by simp, by simp [g6, qC, chD], by simp; omega, by simp [g7, qC, chD], by simp; omega, by repeat' first | exact hf | apply Heap.Fr.bump⟩, _, rfl, by simp; omega, fun j hj => by simpa using u2 j hj⟩
    rcases hj with rfl | rfl | rfl | rfl <;> simp [vs _ (.inl rfl), vs _ (.inr (.inl rfl)), vs _ (.inr (.inr (.inl rfl))), vs _ (.inr (.inr (.inr rfl)))]
  · simp [k18l0, v56, v57, hi]
    refine ⟨⟨_, _, i, rfl, by omega, fun j hj => ?_, by simp [v6], by simp [v7], by simp [v56], by simp [v57], by simp [g6, qC, chD], by simp; omega, by simp [g7, qC, chD], by simp; omega, hf.bump _⟩, _, rfl, by simp; omega, fun j hj => by simpa using u2 j hj⟩
    rcases hj with rfl | rfl | rfl | rfl <;> simp [vs _ (.inl rfl), vs _ (.inr (.inl rfl)), vs _ (.inr (.inr (.inl rfl))), vs _ (.inr (.inr (.inr rfl)))]
end Go.Proofs.YtlfknfknlcgfcaaGreatDoor
/- A world is equal to itself, by the document. -/
namespace Go.Proofs.YtlfknfknlcgfcaaGreatDoor
open Go Go.Em
set_option maxRecDepth 100000
def ZeI (w : Wld) (k : Nat) (s : St) : Prop := ∃ (x : Env 74) (h : Heap) (ka kb i : Nat), s = ⟨x.l, h, []⟩ ∧ i + k = w.qs.length ∧ x.v 2 = .ptr ka 0 ∧ x.v 3 = .ptr kb 0 ∧ x.v 26 = D.int w.qs.length ∧ x.v 27 = D.int i ∧ h.get ka = some (.cells 25 [clsD w.cl, qsD w.qs]) ∧ ka < h.next ∧ h.get kb = some (.cells 25 [clsD w.cl, qsD w.qs]) ∧ kb < h.next ∧ h.Fr
structure WS (w : Wld) (M : Nat) : Prop where
  cl : w.cl.length ≤ M
  qs : w.qs.length ≤ M
  ch : ∀ q ∈ w.qs, q.ch.length ≤ M ∧ ∀ l ∈ q.ch, l.length ≤ M
  M : M ≤ 20000000000000
set_option maxHeartbeats 4000000 in
theorem ze_round (w : Wld) (M : Nat) (hw : WS w M) : ∀ n, M + M + 20 ≤ n → ∀ k s, ZeI w k s → Res (k18l1.ev ⟨pg, 74, none⟩ (rc pg n) s) (Rnd (ZeI w) (fun x s => x = .exit 0 ∧ ZeI w 0 s) k) := by
  rintro n hn k s ⟨x, h, ka, kb, i, rfl, hik, v2, v3, v26, v27, ga, la, gb, lb, hf⟩
  have hqs := hw.qs
  have hM := hw.M
  simp only [qsD, clsD] at ga gb
  by_cases hi : i < w.qs.length
  · obtain ⟨q, hq⟩ : ∃ q, w.qs[i] = q := ⟨_, rfl⟩
    obtain ⟨hc1, hc2⟩ := hw.ch q (by rw [← hq]; exact List.getElem_mem hi)
    have w1 : IntKind.i64.wrap ((i : Int) + 1) = (i : Int) + 1 := wrap_i64 (by omega) (by omega)
    have hfr : ∀ j, h.raw (h.next + j) = none := fun j => hf _ (by omega)
    have ne1 : ∀ j, (ka = h.next + j) = False := fun j => by simp; omega
    have ne2 : ∀ j, (kb = h.next + j) = False := fun j => by simp; omega
    simp [k18l1, v2, v3, v26, v27, ga, gb, hi, hq, qD, qC, chD, D.cells, D.one, hfr, Nat.add_assoc, ne2, ev_loop]
    refine Res.yb (lp_rule (M + 5) _ _ (zd_round q _ _ (h.next + 154) (h.next + 229) M hc2 hM (by omega)) q.ch.length n _ (by omega) ⟨⟨_, _, 0, rfl, by omega, fun j hj => rfl, by simp, by simp, by simp, by simp, by simp [qC, chD], by simp <;> omega, by simp [qC, chD], by simp <;> omega, ?_⟩, _, rfl, Nat.le_refl _, fun j hj => rfl⟩) ?_
    · repeat' first | exact hf | apply Heap.Fr.bump | apply Heap.Fr.set
      all_goals (simp <;> omega)
    · rintro y s ⟨rfl, ⟨y, h1, i1, rfl, hi1, vs, y6, y7, _, _, g6, l6, g7, l7, hf1⟩, h', rfl, u1, u2⟩
      simp only at u1 u2
      have y2 := vs 2 (.inl rfl)
      have y3 := vs 3 (.inr (.inl rfl))
      have y26 := vs 26 (.inr (.inr (.inl rfl)))
      have y27 := vs 27 (.inr (.inr (.inr rfl)))
      simp [v2, v3, v26, v27] at y2 y3 y26 y27
      simp at u1
      have ga' : h1.get ka = some (.cells 25 [clsD w.cl, qsD w.qs]) := by rw [u2 ka (by simp; omega)]; simp [ga, ne1, qsD, clsD]
      have gb' : h1.get kb = some (.cells 25 [clsD w.cl, qsD w.qs]) := by rw [u2 kb (by simp; omega)]; simp [gb, ne2, qsD, clsD]
      simp [y27, w1]
      exact ⟨k - 1, by omega, _, _, ka, kb, i + 1, rfl, by omega, by simp [y2], by simp [y3], by simp [y26], by simp, by simp [ga'], by simp; omega, by simp [gb'], by simp; omega, by repeat' first | exact hf1 | apply Heap.Fr.bump⟩
  · simp [k18l1, v26, v27, hi]
    exact ⟨_, _, ka, kb, i, rfl, by omega, by simp [v2], by simp [v3], by simp [v26], by simp [v27], by simp [ga, qsD, clsD], by simp; omega, by simp [gb, qsD, clsD], by simp; omega, hf.bump _⟩
set_option maxHeartbeats 4000000 in
theorem sameW_run (w : Wld) (M : Nat) (hw : WS w M) {n : Nat} (hn : M + M + M + 100 ≤ n) : pureCall (rc pg n) 18 [wD w, wD w] = some (.ret (D.bool true)) := by
  obtain ⟨m, rfl, e⟩ := body (pg := pg) (f := 18) (args := [wD w, wD w]) (show 0 < n by omega) rfl rfl
  rw [e]
  have hM := hw.M
  have r17 := fun h => call_of (h := h) (pg := pg) (f := 17) rfl (by simp [cls_canon1]) (@same_run w.cl (by have := hw.cl; omega) m (by have := hw.cl; omega))
  simp only [clsD] at r17
  simp [k18, Env.v_ini, wD, clsD, qsD, D.cells, D.one, r17, ev_loop]
  refine Res.endsAfter (lp_rule (M + M + 20) (ZeI w) _ (ze_round w M hw) w.qs.length m _ (by have := hw.qs; omega) ⟨_, _, 2, 3, 0, rfl, by omega, by simp, by simp, by simp, by simp, by simp [clsD, qsD], by simp, by simp [clsD, qsD], by simp, ?_⟩) ?_
  · repeat' first | exact Heap.Fr.empty | apply Heap.Fr.bump | apply Heap.Fr.set
    all_goals simp
  · rintro y s ⟨rfl, x, h, ka, kb, i, rfl, _⟩
    simp
end Go.Proofs.YtlfknfknlcgfcaaGreatDoor
/- The claims behind choices: by the program, whatever the list of the world's claims is when it is empty. -/
namespace Go.Proofs.YtlfknfknlcgfcaaGreatDoor
open Go Go.Em
set_option maxRecDepth 100000
theorem lp_part {pg : Pg} {c : Cfg} {a : Cd} (I : Nat → St → Prop) (Q : Ex → St → Prop) (step : ∀ n k s, I k s → ∀ x s', a.ev c (rc pg n) s = some (x, s') → Rnd I Q k x s') :
    ∀ n k s, I k s → ∀ x s', (rc pg n).lp c a s = some (x, s') → Q x s' := by
  intro n
  induction n with
  | zero => intro k s _ x s' e; cases e
  | succ n ih =>
    intro k s hI x s' e
    change lpBody (rc pg n) c a s = some (x, s') at e
    unfold lpBody at e
    cases h1 : a.ev c (rc pg n) s with
    | none => rw [h1] at e; cases e
    | some p =>
      obtain ⟨y, t⟩ := p
      rw [h1] at e
      have hr := step n k s hI y t h1
      cases y with
      | normal =>
        obtain ⟨j, _, h2⟩ := hr
        exact ih j t h2 x s' e
      | _ => cases e; exact hr
def AC (h : Heap) (d : D) (l : List Clm) : Prop := (l = [] ∧ d = .val (.slice none 0 0)) ∨ (l = [] ∧ ∃ k, d = .slr k 0 0 5 (some 0) ∧ h.get k = some (.cells 96 []) ∧ k < h.next) ∨ ∃ k, d = .slr k 0 l.length 5 none ∧ h.get k = some (.cells 96 (l.flatMap clC)) ∧ k < h.next
theorem AC.keep {h h' : Heap} {d : D} {l : List Clm} (g : AC h d l) (hn : h.next ≤ h'.next) (hk : ∀ k, k < h.next → h'.get k = h.get k) : AC h' d l := by
  rcases g with g | ⟨e, k, a, b, c⟩ | ⟨k, a, b, c⟩
  · exact .inl g
  · exact .inr (.inl ⟨e, k, a, by rw [hk k c]; exact b, by omega⟩)
  · exact .inr (.inr ⟨k, a, by rw [hk k c]; exact b, by omega⟩)
theorem AC.frz {h : Heap} {d : D} {l : List Clm} (g : AC h d l) : Fz h d l := by
  rcases g with ⟨rfl, rfl⟩ | ⟨rfl, k, rfl, g, _⟩ | ⟨k, rfl, g, _⟩
  · exact ⟨[], rfl⟩
  · exact Fz.of g rfl (by simp)
  · exact Fz.of g rfl (List.take_of_length_le (by rw [cells_len]; omega))
theorem cells_i (n : Int) : (D.int n).cells = [D.int n] := rfl
theorem cells_s (z : Bool) (l : List D) : (D.sl z l).cells = [D.sl z l] := rfl
theorem cells_a (l : List D) : (D.agg l).cells = l := rfl
def BI (w : Wld) (c0 : D) (cs : List Int) (k : Nat) (s : St) : Prop := ∃ (x : Env 31) (h : Heap) (kb i : Nat) (d : D), s = ⟨x.l, h, []⟩ ∧ i + k = cs.length ∧ x.v 2 = .ptr kb 0 ∧ h.get kb = some (.cells 25 [c0, qsD w.qs]) ∧ kb < h.next ∧ x.v 11 = intsD cs ∧ x.v 12 = D.int cs.length ∧ x.v 13 = D.int i ∧ x.v 5 = d ∧ AC h d (upN w cs i) ∧ (∀ j, d = .slr kb 0 j 5 none → False) ∧ h.Fr
set_option maxHeartbeats 4000000 in
theorem behind_round (w : Wld) (c0 : D) (cs : List Int) (hqs : cs.length ≤ w.qs.length) (hch : (w.qs.zip cs).all okCh = true) (hN : claimsF w ≤ 400) (hl : cs.length ≤ 1000) : ∀ n, 10 ≤ n → ∀ k s, BI w c0 cs k s → Res (k59l0.ev ⟨pg, 31, none⟩ (rc pg n) s) (Rnd (BI w c0 cs) (fun x s => x = .exit 0 ∧ BI w c0 cs 0 s) k) := by
  rintro n hn k s ⟨x, h, kb, i, d, rfl, hik, v2, hg, hk, v11, v12, v13, v5, hd, hkd, hf⟩
  simp only [qsD] at hg
  simp only [intsD] at v11
  by_cases hi : i < cs.length
  · have hiq : i < w.qs.length := by omega
    obtain ⟨q, hq⟩ : ∃ q, w.qs[i] = q := ⟨_, rfl⟩
    obtain ⟨c, hc⟩ : ∃ c, cs[i] = c := ⟨_, rfl⟩
    have hzm : (q, c) ∈ w.qs.zip cs := by rw [← hq, ← hc, List.mem_iff_getElem]; exact ⟨i, by rw [List.length_zip]; omega, by simp⟩
    have hok := List.all_eq_true.1 hch _ hzm
    unfold okCh at hok
    simp only [inR_eq, Bool.and_eq_true, decide_eq_true_eq] at hok
    obtain ⟨j, rfl⟩ : ∃ j : Nat, c = j := ⟨c.toNat, by omega⟩
    have hj : j < q.ch.length := by omega
    obtain ⟨p, hp⟩ : ∃ p, q.ch[j] = p := ⟨_, rfl⟩
    have hup := up_succ (w := w) (cs := cs) hiq hi
    have hpk : pickC (q, (j : Int)) = p := by unfold pickC; simp [hj, hp]
    rw [hq, hc, hpk] at hup
    have hle := up_le w cs (i + 1)
    rw [hup, List.length_append] at hle
    obtain ⟨U, hU⟩ : ∃ U, U = upN w cs i := ⟨_, rfl⟩
    rw [← hU] at hup hle hd
    have w1 : IntKind.i64.wrap ((i : Int) + 1) = (i : Int) + 1 := wrap_i64 (by omega) (by omega)
    have hfr : ∀ j, h.raw (h.next + j) = none := fun j => hf _ (by omega)
    have h2 := cls_cells p
    have h3 := cls_one p
    have hall : ∀ x : Clm, (D.cells (clD x)).length = 5 := fun _ => rfl
    have ne1 : ∀ j, (kb = h.next + j) = False := fun j => by simp; omega
    by_cases hpe : p = []
    · subst hpe
      rw [List.append_nil] at hup
      have hz : ∀ (t : Nat) (hh : Heap), apK t 96 5 40 hh d (some (0, [])) = some (d, hh) := fun t hh => by
        rcases hd with ⟨_, rfl⟩ | ⟨_, k, rfl, _⟩ | ⟨k, rfl, _⟩
        · exact apK_zero_nil
        · exact apK_zero_slr ..
        · exact apK_zero_slr ..
      simp [k59l0, v2, v5, v11, v12, v13, hg, hi, hiq, hq, hc, hj, hp, qD, qC, chD, clsD, D.cells, w1, Nat.add_assoc, hz]
      refine ⟨k - 1, by omega, _, _, kb, i + 1, d, rfl, by omega, by simp [v2], by simp [hg, qsD], by simp; omega, by simp [v11, intsD], by simp [v12], by simp, by simp, ?_, hkd, by repeat' first | exact hf | apply Heap.Fr.bump⟩
      rw [hup]
      exact hd.keep (by simp <;> omega) fun q hq => by simp
    · have hlp : p.length ≠ 0 := fun h => hpe (List.eq_nil_of_length_eq_zero h)
      have ne2 : ∀ j, (h.next + j = kb) = False := fun j => by simp; omega
      rcases hd with ⟨hU0, rfl⟩ | ⟨hU0, kk, rfl, hg2, hkk⟩ | ⟨kk, rfl, hg2, hkk⟩
      · subst hU0
        rw [List.nil_append] at hup
        have hr : p.length * 40 ≤ room ∧ p.length ≤ maxLen := ⟨by unfold room; omega, by unfold maxLen; omega⟩
        simp [k59l0, v2, v5, v11, v12, v13, hg, hi, hiq, hq, hc, hj, hp, qD, qC, chD, clsD, cells_i, cells_s, cells_a, w1, Nat.add_assoc, hall, h2, h3, hlp, apK_some, hr, hfr]
        refine ⟨k - 1, by omega, _, _, kb, i + 1, .slr (h.next + 90) 0 p.length 5 none, rfl, by omega, by simp [v2], by simp [hg, qsD, ne1], by simp; omega, by simp [v11, intsD], by simp [v12], by simp, by simp, .inr (.inr ⟨h.next + 90, by simp [hup], by simp [hup], by simp <;> omega⟩), fun j hj => by simp at hj; omega, ?_⟩
        repeat' first | exact hf | apply Heap.Fr.bump | apply Heap.Fr.set
        all_goals (simp <;> omega)
      · subst hU0
        rw [List.nil_append] at hup
        have z := fun t hh news ty cs => appS_zero5 (t := t) (h := hh) (m := p.length) (news := news) (k := kk) (ty := ty) (cs := cs) (by omega) (by unfold room; omega) (by unfold maxLen; omega)
        simp [k59l0, v2, v5, v11, v12, v13, hg, hi, hiq, hq, hc, hj, hp, qD, qC, chD, clsD, cells_i, cells_s, cells_a, w1, Nat.add_assoc, hall, h2, h3, hlp, apK_some, hg2, z, hfr]
        refine ⟨k - 1, by omega, _, _, kb, i + 1, .slr (h.next + 90) 0 p.length 5 none, rfl, by omega, by simp [v2], by simp [hg, qsD, ne1], by simp; omega, by simp [v11, intsD], by simp [v12], by simp, by simp, .inr (.inr ⟨h.next + 90, by simp [hup], by simp [hup], by simp <;> omega⟩), fun j hj => by simp at hj; omega, ?_⟩
        repeat' first | exact hf | apply Heap.Fr.bump | apply Heap.Fr.set
        all_goals (simp <;> omega)
      · have nek : (kb = kk) = False := by
          simp; intro e; exact hkd _ (by rw [e])
        have ne3 : ∀ j, (h.next + j = kk) = False := fun j => by simp; omega
        have happ := fun t hh news => appS_none (t := t) (et := 96) (sz := 5) (bytes := 40) (h := hh) (m := p.length) (news := news) (k := kk) (n := U.length) (cs := U.flatMap clC) (cells_len U) (by omega) (by unfold room; omega) (by unfold maxLen; omega)
        simp [k59l0, v2, v5, v11, v12, v13, hg, hi, hiq, hq, hc, hj, hp, qD, qC, chD, clsD, cells_i, cells_s, cells_a, w1, Nat.add_assoc, hall, h2, h3, hlp, apK_some, hg2, happ, hfr, ne3]
        refine ⟨k - 1, by omega, _, _, kb, i + 1, .slr (h.next + 90) 0 (U.length + p.length) 5 none, rfl, by omega, by simp [v2], by simp [hg, qsD, ne1, nek], by simp; omega, by simp [v11, intsD], by simp [v12], by simp, by simp, .inr (.inr ⟨h.next + 90, by simp [hup], by simp [hup], by simp <;> omega⟩), fun j hj => by simp at hj; omega, ?_⟩
        repeat' first | exact hf | apply Heap.Fr.bump | apply Heap.Fr.set
        all_goals (simp <;> omega)
  · simp [k59l0, v12, v13, hi]
    exact ⟨_, _, kb, i, d, rfl, by omega, by simp [v2], by simp [hg, qsD], by simp; omega, by simp [v11, intsD], by simp [v12], by simp [v13], by simp [v5], hd.keep (by simp) (by simp), hkd, hf.bump _⟩
end Go.Proofs.YtlfknfknlcgfcaaGreatDoor
/- The claims behind choices, by the program: all lists of claims. -/
namespace Go.Proofs.YtlfknfknlcgfcaaGreatDoor
open Go Go.Em
set_option maxRecDepth 100000
def OkC0 (c0 : D) (l : List Clm) : Prop := (l = [] ∧ (c0 = .val (.slice none 0 0) ∨ c0 = .sle)) ∨ (l ≠ [] ∧ c0 = clsD l)
set_option maxHeartbeats 2000000 in
theorem clone_any {c0 : D} {l : List Clm} (hc : OkC0 c0 l) (hl : l.length * 40 ≤ 140737488355328) {h : Heap} (hf : h.Fr) {n : Nat} (hn : 1 ≤ n) :
    ∃ d h', (rc pg n).fn 66 [c0] h = some (.ret d, h') ∧ AC h' d l ∧ h.next ≤ h'.next ∧ (∀ j, j < h.next → h'.raw j = h.raw j) ∧ h'.Fr ∧ (∀ k j, d = .slr k 0 j 5 none → h.next ≤ k) := by
  obtain ⟨m, rfl, e⟩ := fn_body (pg := pg) (f := 66) (args := [c0]) (h := h) (show 0 < n by omega) rfl rfl
  rw [e]
  have hfr : ∀ j, h.raw (h.next + j) = none := fun j => hf _ (by omega)
  have hn0 : nilOf .slice (.val (.slice none 0 0)) = some true := rfl
  rcases hc with ⟨rfl, rfl | rfl⟩ | ⟨hne, rfl⟩
  · simp [-nilOf, k66, Env.v_ini, hn0]
    refine ⟨_, _, ⟨rfl, rfl⟩, .inl ⟨rfl, rfl⟩, by simp <;> omega, fun j hj => by simp, by repeat' first | exact hf | apply Heap.Fr.bump, fun k j hj => by cases hj⟩
  · have hn1 : nilOf .slice .sle = some false := rfl
    simp [-nilOf, k66, Env.v_ini, hn0, hn1, D.wk, zerosD, hfr, Nat.add_assoc, apK_zero_slr]
    refine ⟨_, _, ⟨rfl, rfl⟩, .inr (.inl ⟨rfl, _, rfl, by simp, by simp <;> omega⟩), by simp <;> omega, fun j hj => ?_, ?_, fun k j hj => by simp at hj⟩
    · simp
      omega
    · repeat' first | exact hf | apply Heap.Fr.bump | apply Heap.Fr.set
      all_goals (simp <;> omega)
  · have h1 := cls_nil hne
    have h2 := cls_cells l
    have h3 := cls_one l
    have hlen : l.length ≠ 0 := fun h => hne (List.eq_nil_of_length_eq_zero h)
    have z := fun t hh news k ty cs => appS_zero5 (t := t) (h := hh) (m := l.length) (news := news) (k := k) (ty := ty) (cs := cs) (by omega) (by unfold room; omega) (by unfold maxLen; omega)
    have hall : (l.map clD).all (fun e => e.cells.length == 5) = true := by simp [clD, clC, D.cells]
    simp [-nilOf, k66, Env.v_ini, clsD, h1, hn0, hall, h2, h3, hlen, zerosD, apK_some, z, hfr, Nat.add_assoc]
    refine ⟨_, _, ⟨rfl, rfl⟩, .inr (.inr ⟨_, rfl, by simp, by simp <;> omega⟩), by simp <;> omega, fun j hj => ?_, ?_, fun k j hj => by simp at hj; omega⟩
    · simp
      repeat rw [if_neg (by omega)]
    · repeat' first | exact hf | apply Heap.Fr.bump | apply Heap.Fr.set
      all_goals (simp <;> omega)
structure Chs (w : Wld) (cs : List Int) : Prop where
  le : cs.length ≤ w.qs.length
  ok : (w.qs.zip cs).all okCh = true
  c4 : claimsF w ≤ 400
  l6 : cs.length ≤ 1000
theorem Chs.cl {w : Wld} {cs : List Int} (c : Chs w cs) : w.cl.length ≤ 400 := by
  have := up_le w cs 0
  rw [up_zero] at this
  exact Nat.le_trans this c.c4
theorem one_s (z : Bool) (l : List D) : (D.sl z l).one = true := rfl
set_option maxHeartbeats 4000000 in
theorem behind_c0 {w : Wld} {c0 : D} {cs : List Int} (hc : Chs w cs) (h0 : OkC0 c0 w.cl) {n : Nat} (hn : cs.length + 20 ≤ n) : pureCall (rc pg n) 59 [.agg [c0, qsD w.qs], intsD cs] = some (.ret (clsD (upF w cs))) := by
  obtain ⟨m, rfl, e⟩ := body (pg := pg) (f := 59) (args := [.agg [c0, qsD w.qs], intsD cs]) (show 0 < n by omega) rfl rfl
  rw [e]
  have hcl := hc.cl
  obtain ⟨H, hH⟩ : ∃ H : Heap, H = (((Heap.empty.bump 31).set 2 (some (.cells 25 [c0, qsD w.qs]))).bump 31) := ⟨_, rfl⟩
  have hHf : H.Fr := by
    rw [hH]
    repeat' first | exact Heap.Fr.empty | apply Heap.Fr.bump | apply Heap.Fr.set
    all_goals simp
  obtain ⟨d, h', e66, ac, n1, r1, f1, nk⟩ := clone_any h0 (by omega) hHf (n := m) (by omega)
  have g1 : ∀ j, j < H.next → h'.get j = H.get j := fun j hj => by unfold Heap.get; rw [r1 j hj]
  have c66 := call_sh (pg := pg) (show pg.sh 66 = true from rfl) e66
  have hHn : H.next = 62 := by rw [hH]; simp
  have hg2 : h'.get 2 = some (.cells 25 [c0, qsD w.qs]) := by rw [g1 2 (by omega), hH]; simp
  have hone : c0.one = true := by
    rcases h0 with ⟨_, rfl | rfl⟩ | ⟨_, rfl⟩ <;> rfl
  have hH2 : H.get 2 = some (.cells 25 [c0, qsD w.qs]) := by rw [hH]; simp
  simp only [qsD] at hH hg2 hH2
  have hkd : ∀ j, d = .slr 2 0 j 5 none → False := fun j hj => by have := nk 2 j hj; omega
  simp [k59, Env.v_ini, qsD, intsD, cells_a, one_s, hone, ← hH, hH2, c66, ev_loop]
  refine Res.endsAfter (lp_rule 10 (BI w c0 cs) _ (behind_round w c0 cs hc.le hc.ok hc.c4 hc.l6) cs.length m _ (by omega) ⟨_, _, 2, 0, d, rfl, by omega, by simp, by simp [hg2, qsD], by simp <;> omega, by simp [intsD], by simp, by simp, by simp, ?_, hkd, f1.bump _⟩) ?_
  · rw [up_zero]
    exact ac.keep (by simp) (by simp)
  · rintro y s ⟨rfl, x, h, kb, i, d, rfl, hi, _, _, _, _, _, _, v5, hd, _, _⟩
    have hil : i = cs.length := by omega
    subst hil
    rw [up_all (Nat.le_refl _)] at hd
    obtain ⟨ks, hz⟩ := AC.frz (hd.keep (h' := (h.bump 31)) (by simp) (by simp))
    simp [v5]
    exact ⟨_, hz⟩
end Go.Proofs.YtlfknfknlcgfcaaGreatDoor
/- The claims behind choices, by the program, for all worlds. -/
namespace Go.Proofs.YtlfknfknlcgfcaaGreatDoor
open Go Go.Em
set_option maxRecDepth 100000
theorem clone_n (m : Nat) (h : Heap) : (rc pg (m + 1)).fn 66 [.sl false []] h = none := by kernel_rfl
theorem clone_nil (m : Nat) : pureCall (rc pg (m + 1)) 66 [.val (.slice none 0 0)] = some (.ret (.sl false [])) := by kernel_rfl
theorem clone_e (m : Nat) : pureCall (rc pg (m + 1)) 66 [.sle] = some (.ret (.sl false [])) := by kernel_rfl
theorem clone_0 {n : Nat} (hn : 1 ≤ n) (h : Heap) : call pg (rc pg n) 66 [.sl false []] h = some (.ret (.sl false []), h) := by
  obtain ⟨m, rfl⟩ := more_of hn
  unfold call
  simp only [show pg.sh 66 = true from rfl, if_true, clone_n]
  unfold splitNil
  simp only [clone_nil, clone_e, Option.map_some]
theorem okK_none (s : St) : okK s none = none := by unfold okK; rfl
theorem opG_none (c : Cfg) (R : Rc) (b : Nat) (l : List G) (d : Option Nat) : opG c R b l d none = none := by unfold opG; rfl
theorem blockK_none (id : Nat) : blockK id none = none := by unfold blockK; rfl
theorem andThen_none (k : St → Option (Ex × St)) : andThen none k = none := by unfold andThen; rfl
theorem endK_none (R : Rc) (rs : List (ResultVar × Bool × Nat)) : endK R rs none = none := by unfold endK; rfl
def PI (w : Wld) (cs : List Int) (k : Nat) (s : St) : Prop := ∃ (x : Env 31) (h : Heap) (kb i : Nat), s = ⟨x.l, h, []⟩ ∧ i + k = cs.length ∧ x.v 2 = .ptr kb 0 ∧ h.get kb = some (.cells 25 [clsD [], qsD w.qs]) ∧ kb < h.next ∧ x.v 11 = intsD cs ∧ x.v 12 = D.int cs.length ∧ x.v 13 = D.int i ∧ x.v 5 = .sl false [] ∧ upN w cs i = []
theorem apK_zero_sl {t et sz bytes : Nat} {h : Heap} (z : Bool) (l : List D) : apK t et sz bytes h (.sl z l) (some (0, [])) = some (.sl z l, h) := by unfold apK; simp
theorem apK_sl {t et sz bytes m : Nat} {news : List D} {h : Heap} (h1 : news.all D.one = true) (h2 : m ≠ 0) : apK t et sz bytes h (.sl false []) (some (m, news)) = none := by
  rw [apK_some _ h1 h2]; rfl
set_option maxHeartbeats 4000000 in
theorem part_round {w : Wld} {cs : List Int} (H : Chs w cs) : ∀ n k s, PI w cs k s → ∀ x s', k59l0.ev ⟨pg, 31, none⟩ (rc pg n) s = some (x, s') → Rnd (PI w cs) (fun x s => x = .exit 0 ∧ PI w cs 0 s) k x s' := by
  rintro n k s ⟨x, h, kb, i, rfl, hik, v2, hg, hk, v11, v12, v13, v5, hu⟩ x' s' ev
  have hqs := H.le
  have hl := H.l6
  simp only [qsD, clsD] at hg
  simp only [intsD] at v11
  by_cases hi : i < cs.length
  · have hiq : i < w.qs.length := by omega
    obtain ⟨q, hq⟩ : ∃ q, w.qs[i] = q := ⟨_, rfl⟩
    obtain ⟨c, hc⟩ : ∃ c, cs[i] = c := ⟨_, rfl⟩
    have hzm : (q, c) ∈ w.qs.zip cs := by rw [← hq, ← hc, List.mem_iff_getElem]; exact ⟨i, by rw [List.length_zip]; omega, by simp⟩
    have hok := List.all_eq_true.1 H.ok _ hzm
    unfold okCh at hok
    simp only [inR_eq, Bool.and_eq_true, decide_eq_true_eq] at hok
    obtain ⟨j, rfl⟩ : ∃ j : Nat, c = j := ⟨c.toNat, by omega⟩
    have hj : j < q.ch.length := by omega
    obtain ⟨p, hp⟩ : ∃ p, q.ch[j] = p := ⟨_, rfl⟩
    have hup := up_succ (w := w) (cs := cs) hiq hi
    have hpk : pickC (q, (j : Int)) = p := by unfold pickC; simp [hj, hp]
    rw [hq, hc, hpk, hu, List.nil_append] at hup
    have w1 : IntKind.i64.wrap ((i : Int) + 1) = (i : Int) + 1 := wrap_i64 (by omega) (by omega)
    have h2 := cls_cells p
    have h3 := cls_one p
    have hall : ∀ x : Clm, (D.cells (clD x)).length = 5 := fun _ => rfl
    by_cases hpe : p = []
    · subst hpe
      simp [k59l0, v2, v5, v11, v12, v13, hg, hi, hiq, hq, hc, hj, hp, qD, qC, chD, clsD, cells_i, cells_s, cells_a, w1, Nat.add_assoc, apK_zero_sl] at ev
      obtain ⟨rfl, rfl⟩ := ev
      exact ⟨k - 1, by omega, _, _, kb, i + 1, rfl, by omega, by simp [v2], by simp [hg, qsD, clsD], by simp; omega, by simp [v11, intsD], by simp [v12], by simp, by simp, hup⟩
    · have hlp : p.length ≠ 0 := fun h => hpe (List.eq_nil_of_length_eq_zero h)
      simp [k59l0, v2, v5, v11, v12, v13, hg, hi, hiq, hq, hc, hj, hp, qD, qC, chD, clsD, cells_i, cells_s, cells_a, Nat.add_assoc, hall, h2, h3, hlp, apK_sl, okK_none, opG_none, blockK_none, andThen_none] at ev
  · simp [k59l0, v12, v13, hi] at ev
    obtain ⟨rfl, rfl⟩ := ev
    exact ⟨rfl, _, _, kb, i, rfl, by omega, by simp [v2], by simp [hg, qsD, clsD], by simp; omega, by simp [v11, intsD], by simp [v12], by simp [v13], by simp [v5], hu⟩
theorem part_after {o : Option (Ex × St)} {id : Nat} {k : St → Option (Ex × St)} {R : Rc} {rs : List (ResultVar × Bool × Nat)} {out : Out} {P : Ex → St → Prop} {G : Prop} (ho : endK R rs (andThen (blockK id o) k) = some out) (h : ∀ y s, o = some (y, s) → P y s)
    (hk : ∀ y s, P y s → endK R rs (andThen (blockK id (some (y, s))) k) = some out → G) : G := by
  cases o with
  | none => rw [blockK_none, andThen_none, endK_none] at ho; cases ho
  | some p => exact hk _ _ (h _ _ rfl) ho
theorem eqqL_map {α : Type} (f : α → D) (hf : ∀ a, eqq (f a) (f a) = true) : ∀ l : List α, eqqL (l.map f) (l.map f) = true
  | [] => rfl
  | a :: l => by rw [List.map_cons, eqqL, hf a, eqqL_map f hf l]; rfl
theorem eqq_cl (c : Clm) : eqq (clD c) (clD c) = true := by simp [clD, clC, eqq, eqqL]
theorem eqq_cls (l : List Clm) : eqq (clsD l) (clsD l) = true := by
  unfold clsD
  rw [eqq, eqqL_map clD eqq_cl l]; rfl
set_option maxHeartbeats 4000000 in
theorem behind_part {w : Wld} {cs : List Int} (hc : Chs w cs) (h0 : w.cl = []) {n : Nat} (hn : 2 ≤ n) {o : Out} (ho : pureCall (rc pg n) 59 [wD w, intsD cs] = some o) : o = .ret (clsD (upF w cs)) := by
  obtain ⟨m, rfl, e⟩ := body (pg := pg) (f := 59) (args := [wD w, intsD cs]) (show 0 < n by omega) rfl rfl
  rw [e] at ho
  have c66 := clone_0 (n := m) (by omega)
  simp [k59, Env.v_ini, wD, h0, clsD, qsD, intsD, cells_a, one_s, c66, ev_loop] at ho
  refine part_after ho (fun y s e => lp_part (PI w cs) _ (part_round hc) m cs.length _ ⟨_, _, 2, 0, rfl, by omega, by simp, by simp [qsD, clsD], by simp, by simp [intsD], by simp, by simp, by simp, by rw [up_zero, h0]⟩ y s e) ?_
  rintro y s ⟨rfl, x, h, kb, i, rfl, hi, _, _, _, _, _, _, v5, hu⟩ ho
  have hil : i = cs.length := by omega
  subst hil
  rw [up_all (Nat.le_refl _)] at hu
  simp [v5] at ho
  rw [hu, ← ho]; rfl
theorem behind_S {w : Wld} {cs : List Int} (hc : Chs w cs) {n : Nat} (hn : cs.length + 20 ≤ n) : pureS (rc pg n) 59 [wD w, intsD cs] = some (.ret (clsD (upF w cs))) := by
  by_cases h0 : w.cl = []
  · rw [pureS_is]
    cases hp : pureCall (rc pg n) 59 [wD w, intsD cs] with
    | some o => rw [behind_part hc h0 (by omega) hp]; rfl
    | none =>
      have e1 := behind_c0 (c0 := .val (.slice none 0 0)) hc (.inl ⟨h0, .inl rfl⟩) hn
      have e2 := behind_c0 (c0 := .sle) hc (.inl ⟨h0, .inr rfl⟩) hn
      have hs : splitAgg (rc pg n) 59 [wD w, intsD cs] = some (.ret (clsD (upF w cs))) := by
        unfold wD
        rw [h0]
        show (match pureCall (rc pg n) 59 [.agg [.val (.slice none 0 0), qsD w.qs], intsD cs], pureCall (rc pg n) 59 [.agg [.sle, qsD w.qs], intsD cs] with
          | some (Out.ret a), some (Out.ret b) => if eqq a b = true then some (Out.ret a) else none
          | _, _ => none) = _
        rw [e1, e2]
        simp only [eqq_cls, if_true]
      rw [hs]; rfl
  · have e1 := behind_c0 hc (.inr ⟨h0, rfl⟩) hn
    rw [pureS_is]
    show orS (pureCall (rc pg n) 59 [.agg [clsD w.cl, qsD w.qs], intsD cs]) _ = _
    rw [e1]; rfl
end Go.Proofs.YtlfknfknlcgfcaaGreatDoor
