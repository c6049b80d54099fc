/- Worlds: claims, and questions with choices of claims. -/
import Derived.Test.YtlfknfknlcgfcaaGreatDoorTz
namespace Go.Proofs.YtlfknfknlcgfcaaGreatDoor
open Go Go.Em
set_option maxRecDepth 100000
structure Qst where
  b : Int
  ch : List (List Clm)
structure Wld where
  cl : List Clm
  qs : List Qst
def chD (l : List (List Clm)) : D := .sl false (l.map clsD)
def qC (q : Qst) : List D := [D.int q.b, chD q.ch]
def qD (q : Qst) : D := .agg (qC q)
def qsD (l : List Qst) : D := .sl false (l.map qD)
def wD (w : Wld) : D := .agg [clsD w.cl, qsD w.qs]
theorem cls_canon1 (l : List Clm) : (clsD l).canon = true := by simp [clsD, canonL_map clD cl_canon l]
theorem ch_canon1 (l : List (List Clm)) : (chD l).canon = true := by simp [chD, canonL_map clsD cls_canon1 l]
theorem q_canon (q : Qst) : (qD q).canon = true := by simp [qD, qC, ch_canon1]
theorem qs_canon1 (l : List Qst) : (qsD l).canon = true := by simp [qsD, canonL_map qD q_canon l]
theorem w_canon (w : Wld) : (wD w).canon = true := by simp [wD, cls_canon1, qs_canon1]
def okB (b : Int) (c : Clm) : Bool := (c.by_ == b) && okF c
def okQ (q : Qst) : Bool := inR q.b 1 99999 && inR q.ch.length 1 60 && q.ch.all fun l => l.all (okB q.b)
def ckQ (q : Qst) : Int := if okQ q = true then 0 else 50
def mostF (l : List (List Clm)) : Nat := l.foldl (fun m c => max m c.length) 0
def leavesF (l : List Qst) : Nat := l.foldl (fun m q => m * q.ch.length) 1
def claimsF (w : Wld) : Nat := w.qs.foldl (fun m q => m + mostF q.ch) w.cl.length
def allF (w : Wld) : List Clm := w.cl ++ w.qs.flatMap fun q => q.ch.flatten
def chkW (w : Wld) : Int := if chkF w.cl ≠ 0 then chkF w.cl else if 6 < w.qs.length then 2 else if w.qs.all okQ = true then (if 3000 < leavesF w.qs ∨ 400 < claimsF w ∨ 64 < (marksF (allF w)).length then 2 else 0) else 50
theorem most_snoc (l : List (List Clm)) (c : List Clm) : mostF (l ++ [c]) = max (mostF l) c.length := by unfold mostF; rw [List.foldl_append]; rfl
theorem leaves_snoc (l : List Qst) (q : Qst) : leavesF (l ++ [q]) = leavesF l * q.ch.length := by unfold leavesF; rw [List.foldl_append]; rfl
theorem ok_b {b : Int} {c : Clm} (h : okB b c = true) : okF c = true := by unfold okB at h; simp at h; exact h.2
theorem ok_q {q : Qst} (h : okQ q = true) : (1 ≤ q.b ∧ q.b ≤ 99999) ∧ (1 ≤ q.ch.length ∧ q.ch.length ≤ 60) ∧ ∀ l ∈ q.ch, ∀ c ∈ l, okB q.b c = true := by
  unfold okQ at h
  simp only [inR_eq, Bool.and_eq_true, decide_eq_true_eq, List.all_eq_true] at h
  refine ⟨by omega, by omega, h.2⟩
theorem leaves_fold : ∀ (l : List Qst) (m : Nat), (∀ q ∈ l, q.ch.length ≤ 60) → l.foldl (fun m q => m * q.ch.length) m ≤ m * 60 ^ l.length
  | [], m, _ => by simp
  | q :: l, m, h => by
    have h1 := leaves_fold l (m * q.ch.length) (fun q hq => h q (List.mem_cons_of_mem _ hq))
    rw [List.foldl_cons, List.length_cons, Nat.pow_succ, Nat.mul_comm (60 ^ l.length) 60, ← Nat.mul_assoc]
    exact Nat.le_trans h1 (Nat.mul_le_mul_right _ (Nat.mul_le_mul_left _ (h q List.mem_cons_self)))
theorem leaves_le (l : List Qst) (h : ∀ q ∈ l, q.ch.length ≤ 60) (hl : l.length ≤ 6) : leavesF l ≤ 46656000000 := by
  have h1 := leaves_fold l 1 h
  rw [Nat.one_mul] at h1
  exact Nat.le_trans h1 (Nat.le_trans (Nat.pow_le_pow_right (by omega) hl) (by decide))
theorem most_fold (N : Nat) : ∀ (l : List (List Clm)) (m : Nat), m ≤ N → (∀ c ∈ l, c.length ≤ N) → l.foldl (fun m c => max m c.length) m ≤ N
  | [], _, hm, _ => hm
  | c :: l, m, hm, h => most_fold N l (max m c.length) (Nat.max_le.2 ⟨hm, h c List.mem_cons_self⟩) (fun c hc => h c (List.mem_cons_of_mem _ hc))
theorem most_le (N : Nat) (l : List (List Clm)) (h : ∀ c ∈ l, c.length ≤ N) : mostF l ≤ N := most_fold N l 0 (Nat.zero_le _) h
end Go.Proofs.YtlfknfknlcgfcaaGreatDoor
/- Whether a question is valid: by the program. -/
namespace Go.Proofs.YtlfknfknlcgfcaaGreatDoor
open Go Go.Em
set_option maxRecDepth 100000
theorem Res.yb {L : Option (Ex × St)} {i1 i2 : Nat} {F : St → Option (Ex × St)} {P Q : Ex → St → Prop} (h : Res L P) (hk : ∀ x s, P x s → Res (andThen (blockK i1 (blockK i2 (some (x, s)))) F) Q) : Res (andThen (blockK i1 (blockK i2 L)) F) Q := by
  obtain ⟨x, s, rfl, p⟩ := h; exact hk x s p
theorem cwithin_run {n : Nat} (hn : 1 ≤ n) (a lo hi : Int) (h : Heap) : call pg (rc pg n) 58 [D.int a, D.int lo, D.int hi] h = some (.ret (D.bool (inR a lo hi)), h) := by
  refine call_of rfl rfl ?_
  obtain ⟨m, rfl, e⟩ := body (pg := pg) (f := 58) (args := [D.int a, D.int lo, D.int hi]) hn rfl rfl
  rw [e, inR_eq]
  by_cases h1 : lo ≤ a <;> simp [k58, Env.v_ini, h1]
theorem yall_take {b : Int} {l : List Clm} {i : Nat} (hi : i < l.length) (h : (l.take i).all (okB b) = true) (hc : okB b l[i] = true) : (l.take (i + 1)).all (okB b) = true := by
  rw [List.take_add_one, List.getElem?_eq_getElem hi, List.all_append, h]
  simp [hc]
def YqI (q : Qst) (x0 : Env 43) (kb : Nat) (l : List Clm) (k : Nat) (s : St) : Prop := ∃ (x : Env 43) (h : Heap) (i : Nat), s = ⟨x.l, h, []⟩ ∧ i + k = l.length ∧ (∀ j, 18 ≤ j → j < 24 → x.v j = x0.v j) ∧ x.v 1 = .ptr kb 0 ∧ x.v 25 = clsD l ∧ x.v 26 = D.int l.length ∧ x.v 27 = D.int i ∧ h.get kb = some (.cells 83 (qC q)) ∧ kb < h.next ∧ (l.take i).all (okB q.b) = true ∧ h.Fr
def YqQ (q : Qst) (x0 : Env 43) (kb : Nat) (l : List Clm) (x : Ex) (s : St) : Prop := (x = .exit 2 ∧ YqI q x0 kb l 0 s) ∨ (x = .ret ∧ l.all (okB q.b) = false ∧ ∃ (x : Env 43) (h : Heap), s = ⟨x.l, h, []⟩ ∧ x.v 2 = D.int 50)
set_option maxHeartbeats 2000000 in
theorem yq_round (q : Qst) (x0 : Env 43) (kb : Nat) (l : List Clm) (hlen : l.length ≤ 9223372036854775806) : ∀ n, 2 ≤ n → ∀ k s, YqI q x0 kb l k s → Res (k128l0.ev ⟨pg, 43, none⟩ (rc pg n) s) (Rnd (YqI q x0 kb l) (YqQ q x0 kb l) k) := by
  rintro n hn k s ⟨x, h, i, rfl, hik, vs, v1, v25, v26, v27, hg, hk, hok, hf⟩
  simp only [clsD] at v25
  simp only [qC] at hg
  by_cases hi : i < l.length
  · obtain ⟨c, hc⟩ : ∃ c, l[i] = c := ⟨_, rfl⟩
    have w1 : IntKind.i64.wrap ((i : Int) + 1) = (i : Int) + 1 := wrap_i64 (by omega) (by omega)
    have hfr : ∀ j, h.raw (h.next + j) = none := fun j => hf _ (by omega)
    have ne1 : ∀ j, (kb = h.next + j) = False := fun j => by simp; omega
    have hck := fun h => call_of (h := h) (pg := pg) (f := 173) rfl (by simp [cl_canon]) (@ck_run c n hn)
    simp only [clD, clC] at hck
    cases hb : (c.by_ == q.b) with
    | true =>
      cases hb2 : okF c with
      | true =>
        have e0 : ckF c = 0 := by unfold ckF; rw [hb2]; rfl
        rw [e0] at hck
        simp [k128l0, v1, v25, v26, v27, hg, hi, hc, clD, clC, D.cells, D.one, hfr, Nat.add_assoc, ne1, w1, hck, bne, hb]
        refine ⟨k - 1, by omega, _, _, i + 1, rfl, by omega, fun j h1 h2 => ?_, by simp [v1], by simp [v25, clsD], by simp [v26], by simp, by simp [ne1, hg, qC], by simp; omega, yall_take hi hok (by rw [hc]; unfold okB; simp [hb2]; simpa using hb), ?_⟩
        · have ne : ∀ t, 24 ≤ t → (t = j) = False := fun t ht => by simp; omega
          have ne6 : (6 = j) = False := by simp; omega
          simp [ne, ne6, vs j h1 h2]
        · repeat' first | exact hf | apply Heap.Fr.bump | apply Heap.Fr.set
          all_goals (simp <;> omega)
      | false =>
        have e0 : ckF c = 20 := by unfold ckF; rw [hb2]; rfl
        rw [e0] at hck
        simp [k128l0, v1, v25, v26, v27, hg, hi, hc, clD, clC, D.cells, D.one, hfr, Nat.add_assoc, ne1, hck, bne, hb]
        refine .inr ⟨rfl, ?_, _, _, rfl, by simp⟩
        rw [List.all_eq_false]
        exact ⟨c, by rw [← hc]; exact List.getElem_mem hi, by simp [okB, hb2]⟩
    | false =>
      simp [k128l0, v1, v25, v26, v27, hg, hi, hc, clD, clC, D.cells, D.one, hfr, Nat.add_assoc, ne1, bne, hb]
      refine .inr ⟨rfl, ?_, _, _, rfl, by simp⟩
      rw [List.all_eq_false]
      exact ⟨c, by rw [← hc]; exact List.getElem_mem hi, by simp [okB, hb]⟩
  · simp [k128l0, v26, v27, hi]
    exact .inl ⟨rfl, _, _, i, rfl, by omega, fun j h1 h2 => by
      have ne : ∀ t, 24 ≤ t → (t = j) = False := fun t ht => by simp; omega
      simp [ne, vs j h1 h2], by simp [v1], by simp [v25, clsD], by simp [v26], by simp [v27], by simp [hg, qC], by simp; omega, hok, hf.bump _⟩
end Go.Proofs.YtlfknfknlcgfcaaGreatDoor
/- Whether a question is valid: by the program, the whole. -/
namespace Go.Proofs.YtlfknfknlcgfcaaGreatDoor
open Go Go.Em
set_option maxRecDepth 100000
def YqO (q : Qst) (k : Nat) (s : St) : Prop := ∃ (x : Env 43) (h : Heap) (kb i : Nat), s = ⟨x.l, h, []⟩ ∧ i + k = q.ch.length ∧ x.v 1 = .ptr kb 0 ∧ x.v 19 = chD q.ch ∧ x.v 20 = D.int q.ch.length ∧ x.v 21 = D.int i ∧ h.get kb = some (.cells 83 (qC q)) ∧ kb < h.next ∧ ((q.ch.take i).all fun l => l.all (okB q.b)) = true ∧ h.Fr
def YqOQ (q : Qst) (x : Ex) (s : St) : Prop := (x = .exit 0 ∧ (q.ch.all fun l => l.all (okB q.b)) = true ∧ ∃ (x : Env 43) (h : Heap), s = ⟨x.l, h, []⟩) ∨ (x = .ret ∧ (q.ch.all fun l => l.all (okB q.b)) = false ∧ ∃ (x : Env 43) (h : Heap), s = ⟨x.l, h, []⟩ ∧ x.v 2 = D.int 50)
set_option maxHeartbeats 2000000 in
theorem yqo_round (q : Qst) (M : Nat) (hM : ∀ l ∈ q.ch, l.length ≤ M) (hM2 : M ≤ 9223372036854775806) (hlen : q.ch.length ≤ 60) : ∀ n, M + 10 ≤ n → ∀ k s, YqO q k s → Res (k128l1.ev ⟨pg, 43, none⟩ (rc pg n) s) (Rnd (YqO q) (YqOQ q) k) := by
  rintro n hn k s ⟨x, h, kb, i, rfl, hik, v1, v19, v20, v21, hg, hk, hok, hf⟩
  simp only [chD] at v19
  by_cases hi : i < q.ch.length
  · obtain ⟨l, hl⟩ : ∃ l, q.ch[i] = l := ⟨_, rfl⟩
    have hlm : l.length ≤ M := hM l (by rw [← hl]; exact List.getElem_mem hi)
    have w1 : IntKind.i64.wrap ((i : Int) + 1) = (i : Int) + 1 := wrap_i64 (by omega) (by omega)
    simp [k128l1, v19, v20, v21, hi, hl, clsD, ev_loop, D.cells]
    refine Res.yb (lp_rule 2 (YqI q _ kb l) _ (yq_round q _ kb l (by omega)) l.length n _ (by omega) ⟨_, _, 0, rfl, by omega, fun j h1 h2 => rfl, by simp [v1], by simp [clsD], by simp, by simp, by simp [hg], by simp; omega, by simp, ?_⟩) ?_
    · repeat' first | exact hf | apply Heap.Fr.bump | apply Heap.Fr.set
    · rintro y s (⟨rfl, y, h1, i1, rfl, hi1, vs, y1, _, _, _, hg1, hk1, hok1, hf1⟩ | ⟨rfl, hbad, y, h1, rfl, y2⟩)
      · have i1l : i1 = l.length := by omega
        subst i1l
        rw [List.take_length] at hok1
        have y19 := vs 19 (by omega) (by omega)
        have y20 := vs 20 (by omega) (by omega)
        have y21 := vs 21 (by omega) (by omega)
        simp [v19, v20, v21] at y19 y20 y21
        simp [y21, w1]
        refine ⟨k - 1, by omega, _, _, kb, i + 1, rfl, by omega, by simp [y1], by simp [y19, chD], by simp [y20], by simp, by simp [hg1], by simp; omega, ?_, by repeat' first | exact hf1 | apply Heap.Fr.bump⟩
        rw [List.take_add_one, List.getElem?_eq_getElem hi, List.all_append, hok, hl]
        simp [hok1]
      · simp
        refine .inr ⟨rfl, ?_, _, _, rfl, y2⟩
        rw [List.all_eq_false]
        exact ⟨l, by rw [← hl]; exact List.getElem_mem hi, by simp [hbad]⟩
  · have hil : i = q.ch.length := by omega
    subst hil
    rw [List.take_length] at hok
    simp [k128l1, v20, v21]
    exact .inl ⟨rfl, hok, _, _, rfl⟩
set_option maxHeartbeats 2000000 in
theorem cq_run (q : Qst) (M : Nat) (hM : ∀ l ∈ q.ch, l.length ≤ M) (hM2 : M ≤ 9223372036854775806) {n : Nat} (hn : M + 100 ≤ n) : pureCall (rc pg n) 128 [qD q] = some (.ret (D.int (ckQ q))) := by
  obtain ⟨m, rfl, e⟩ := body (pg := pg) (f := 128) (args := [qD q]) (show 0 < n by omega) rfl rfl
  rw [e]
  have hw := @cwithin_run m (by omega)
  unfold ckQ okQ
  obtain ⟨A, hA⟩ : ∃ A, A = q.ch.all fun l => l.all (okB q.b) := ⟨_, rfl⟩
  rw [← hA]
  cases h1 : inR q.b 1 99999 with
  | false => simp [k128, Env.v_ini, qD, qC, chD, D.cells, D.one, hw, h1]
  | true =>
    cases h2 : inR q.ch.length 1 60 with
    | false => simp [k128, Env.v_ini, qD, qC, chD, D.cells, D.one, hw, h1, h2]
    | true =>
      have h60 : q.ch.length ≤ 60 := by
        simp only [inR_eq, Bool.and_eq_true, decide_eq_true_eq] at h2
        omega
      simp [k128, Env.v_ini, qD, qC, chD, D.cells, D.one, hw, h1, h2, ev_loop]
      refine Res.endsAfter (lp_rule (M + 10) (YqO q) _ (yqo_round q M hM hM2 h60) q.ch.length m _ (by omega) ⟨_, _, _, 0, rfl, by omega, by simp; rfl, by simp [chD], by simp, by simp, by simp [qC, chD], by simp, by simp, ?_⟩) ?_
      · repeat' first | exact Heap.Fr.empty | apply Heap.Fr.bump | apply Heap.Fr.set
        all_goals simp
      · rintro y s (⟨rfl, hall, y, h, rfl⟩ | ⟨rfl, hall, y, h, rfl, y2⟩)
        · rw [hA, hall]; simp
        · rw [hA, hall]; simp [y2]
end Go.Proofs.YtlfknfknlcgfcaaGreatDoor
/- Whether a question is valid: by the document. -/
namespace Go.Proofs.YtlfknfknlcgfcaaGreatDoor
open Go Go.Em
set_option maxRecDepth 100000
def YrI (q : Qst) (x0 : Env 52) (kb : Nat) (l : List Clm) (k : Nat) (s : St) : Prop := ∃ (x : Env 52) (h : Heap) (i : Nat), s = ⟨x.l, h, []⟩ ∧ i + k = l.length ∧ (∀ j, 28 ≤ j → j < 33 → x.v j = x0.v j) ∧ x.v 1 = .ptr kb 0 ∧ x.v 34 = clsD l ∧ x.v 35 = D.int l.length ∧ x.v 36 = D.int i ∧ h.get kb = some (.cells 83 (qC q)) ∧ kb < h.next ∧ (l.take i).all (okB q.b) = true ∧ h.Fr
def YrQ (q : Qst) (x0 : Env 52) (kb : Nat) (l : List Clm) (x : Ex) (s : St) : Prop := (x = .exit 2 ∧ YrI q x0 kb l 0 s) ∨ (x = .ret ∧ l.all (okB q.b) = false ∧ ∃ (x : Env 52) (h : Heap), s = ⟨x.l, h, []⟩ ∧ x.v 2 = D.int 50)
set_option maxHeartbeats 2000000 in
theorem yr_round (q : Qst) (x0 : Env 52) (kb : Nat) (l : List Clm) (hlen : l.length ≤ 9223372036854775806) : ∀ n, 2 ≤ n → ∀ k s, YrI q x0 kb l k s → Res (k130l0.ev ⟨pg, 52, none⟩ (rc pg n) s) (Rnd (YrI q x0 kb l) (YrQ q x0 kb l) k) := by
  rintro n hn k s ⟨x, h, i, rfl, hik, vs, v1, v25, v26, v27, hg, hk, hok, hf⟩
  simp only [clsD] at v25
  simp only [qC] at hg
  by_cases hi : i < l.length
  · obtain ⟨c, hc⟩ : ∃ c, l[i] = c := ⟨_, rfl⟩
    have w1 : IntKind.i64.wrap ((i : Int) + 1) = (i : Int) + 1 := wrap_i64 (by omega) (by omega)
    have hfr : ∀ j, h.raw (h.next + j) = none := fun j => hf _ (by omega)
    have ne1 : ∀ j, (kb = h.next + j) = False := fun j => by simp; omega
    have hck := fun h => call_of (h := h) (pg := pg) (f := 172) rfl (by simp [cl_canon]) (@rck_run c n hn)
    simp only [clD, clC] at hck
    cases hb2 : okF c with
    | true =>
      have e0 : ckF c = 0 := by unfold ckF; rw [hb2]; rfl
      rw [e0] at hck
      cases hb : (c.by_ == q.b) with
      | true =>
        simp [k130l0, v1, v25, v26, v27, hg, hi, hc, clD, clC, D.cells, D.one, hfr, Nat.add_assoc, ne1, w1, hck, bne, hb]
        refine ⟨k - 1, by omega, _, _, i + 1, rfl, by omega, fun j h1 h2 => ?_, by simp [v1], by simp [v25, clsD], by simp [v26], by simp, by simp [ne1, hg, qC], by simp; omega, yall_take hi hok (by rw [hc]; unfold okB; simp [hb2]; simpa using hb), ?_⟩
        · have ne : ∀ t, 33 ≤ t → (t = j) = False := fun t ht => by simp; omega
          have ne6 : (6 = j) = False := by simp; omega
          simp [ne, ne6, vs j h1 h2]
        · repeat' first | exact hf | apply Heap.Fr.bump | apply Heap.Fr.set
          all_goals (simp <;> omega)
      | false =>
        simp [k130l0, v1, v25, v26, v27, hg, hi, hc, clD, clC, D.cells, D.one, hfr, Nat.add_assoc, ne1, hck, bne, hb]
        refine .inr ⟨rfl, ?_, _, _, rfl, by simp⟩
        rw [List.all_eq_false]
        exact ⟨c, by rw [← hc]; exact List.getElem_mem hi, by simp [okB, hb]⟩
    | false =>
      have e0 : ckF c = 20 := by unfold ckF; rw [hb2]; rfl
      rw [e0] at hck
      simp [k130l0, v25, v26, v27, hi, hc, clD, clC, D.cells, D.one, hfr, Nat.add_assoc, hck]
      refine .inr ⟨rfl, ?_, _, _, rfl, by simp⟩
      rw [List.all_eq_false]
      exact ⟨c, by rw [← hc]; exact List.getElem_mem hi, by simp [okB, hb2]⟩
  · simp [k130l0, v26, v27, hi]
    exact .inl ⟨rfl, _, _, i, rfl, by omega, fun j h1 h2 => by
      have ne : ∀ t, 33 ≤ t → (t = j) = False := fun t ht => by simp; omega
      simp [ne, vs j h1 h2], by simp [v1], by simp [v25, clsD], by simp [v26], by simp [v27], by simp [hg, qC], by simp; omega, hok, hf.bump _⟩
def YrO (q : Qst) (k : Nat) (s : St) : Prop := ∃ (x : Env 52) (h : Heap) (kb i : Nat), s = ⟨x.l, h, []⟩ ∧ i + k = q.ch.length ∧ x.v 1 = .ptr kb 0 ∧ x.v 28 = chD q.ch ∧ x.v 29 = D.int q.ch.length ∧ x.v 30 = D.int i ∧ h.get kb = some (.cells 83 (qC q)) ∧ kb < h.next ∧ ((q.ch.take i).all fun l => l.all (okB q.b)) = true ∧ h.Fr
def YrOQ (q : Qst) (x : Ex) (s : St) : Prop := (x = .exit 0 ∧ (q.ch.all fun l => l.all (okB q.b)) = true ∧ ∃ (x : Env 52) (h : Heap), s = ⟨x.l, h, []⟩) ∨ (x = .ret ∧ (q.ch.all fun l => l.all (okB q.b)) = false ∧ ∃ (x : Env 52) (h : Heap), s = ⟨x.l, h, []⟩ ∧ x.v 2 = D.int 50)
set_option maxHeartbeats 2000000 in
theorem yro_round (q : Qst) (M : Nat) (hM : ∀ l ∈ q.ch, l.length ≤ M) (hM2 : M ≤ 9223372036854775806) (hlen : q.ch.length ≤ 60) : ∀ n, M + 10 ≤ n → ∀ k s, YrO q k s → Res (k130l1.ev ⟨pg, 52, none⟩ (rc pg n) s) (Rnd (YrO q) (YrOQ q) k) := by
  rintro n hn k s ⟨x, h, kb, i, rfl, hik, v1, v19, v20, v21, hg, hk, hok, hf⟩
  simp only [chD] at v19
  by_cases hi : i < q.ch.length
  · obtain ⟨l, hl⟩ : ∃ l, q.ch[i] = l := ⟨_, rfl⟩
    have hlm : l.length ≤ M := hM l (by rw [← hl]; exact List.getElem_mem hi)
    have w1 : IntKind.i64.wrap ((i : Int) + 1) = (i : Int) + 1 := wrap_i64 (by omega) (by omega)
    simp [k130l1, v19, v20, v21, hi, hl, clsD, ev_loop, D.cells]
    refine Res.yb (lp_rule 2 (YrI q _ kb l) _ (yr_round q _ kb l (by omega)) l.length n _ (by omega) ⟨_, _, 0, rfl, by omega, fun j h1 h2 => rfl, by simp [v1], by simp [clsD], by simp, by simp, by simp [hg], by simp; omega, by simp, ?_⟩) ?_
    · repeat' first | exact hf | apply Heap.Fr.bump | apply Heap.Fr.set
    · rintro y s (⟨rfl, y, h1, i1, rfl, hi1, vs, y1, _, _, _, hg1, hk1, hok1, hf1⟩ | ⟨rfl, hbad, y, h1, rfl, y2⟩)
      · have i1l : i1 = l.length := by omega
        subst i1l
        rw [List.take_length] at hok1
        have y19 := vs 28 (by omega) (by omega)
        have y20 := vs 29 (by omega) (by omega)
        have y21 := vs 30 (by omega) (by omega)
        simp [v19, v20, v21] at y19 y20 y21
        simp [y21, w1]
        refine ⟨k - 1, by omega, _, _, kb, i + 1, rfl, by omega, by simp [y1], by simp [y19, chD], by simp [y20], by simp, by simp [hg1], by simp; omega, ?_, by repeat' first | exact hf1 | apply Heap.Fr.bump⟩
        rw [List.take_add_one, List.getElem?_eq_getElem hi, List.all_append, hok, hl]
        simp [hok1]
      · simp
        refine .inr ⟨rfl, ?_, _, _, rfl, y2⟩
        rw [List.all_eq_false]
        exact ⟨l, by rw [← hl]; exact List.getElem_mem hi, by simp [hbad]⟩
  · have hil : i = q.ch.length := by omega
    subst hil
    rw [List.take_length] at hok
    simp [k130l1, v20, v21]
    exact .inl ⟨rfl, hok, _, _, rfl⟩
set_option maxHeartbeats 2000000 in
theorem rcq_run (q : Qst) (M : Nat) (hM : ∀ l ∈ q.ch, l.length ≤ M) (hM2 : M ≤ 9223372036854775806) {n : Nat} (hn : M + 100 ≤ n) : pureCall (rc pg n) 130 [qD q] = some (.ret (D.int (ckQ q))) := by
  obtain ⟨m, rfl, e⟩ := body (pg := pg) (f := 130) (args := [qD q]) (show 0 < n by omega) rfl rfl
  rw [e]
  unfold ckQ okQ
  rw [inR_eq, inR_eq]
  obtain ⟨A, hA⟩ : ∃ A, A = q.ch.all fun l => l.all (okB q.b) := ⟨_, rfl⟩
  rw [← hA]
  by_cases h1 : 1 ≤ q.b
  · by_cases h2 : q.b ≤ 99999
    · by_cases h3 : 1 ≤ (q.ch.length : Int)
      · by_cases h4 : (q.ch.length : Int) ≤ 60
        · have a1 : ¬ q.b < 1 := by omega
          have a2 : ¬ 99999 < q.b := by omega
          have a3 : ¬ (q.ch.length : Int) < 1 := by omega
          have a4 : ¬ 60 < (q.ch.length : Int) := by omega
          simp [k130, Env.v_ini, qD, qC, chD, D.cells, D.one, a1, a2, a3, a4, ev_loop]
          refine Res.endsAfter (lp_rule (M + 10) (YrO q) _ (yro_round q M hM hM2 (by omega)) q.ch.length m _ (by omega) ⟨_, _, _, 0, rfl, by omega, by simp; rfl, by simp [chD], by simp, by simp, by simp [qC, chD], by simp, by simp, ?_⟩) ?_
          · repeat' first | exact Heap.Fr.empty | apply Heap.Fr.bump | apply Heap.Fr.set
            all_goals simp
          · rintro y s (⟨rfl, hall, y, h, rfl⟩ | ⟨rfl, hall, y, h, rfl, y2⟩)
            · rw [hA, hall]; simp [h1, h2, h3, h4]
            · rw [hA, hall]; simp [y2]
        · have a1 : ¬ q.b < 1 := by omega
          have a2 : ¬ 99999 < q.b := by omega
          have a3 : ¬ (q.ch.length : Int) < 1 := by omega
          have a4 : 60 < (q.ch.length : Int) := by omega
          simp [k130, Env.v_ini, qD, qC, chD, D.cells, D.one, a1, a2, a3, a4, h4]
      · have a1 : ¬ q.b < 1 := by omega
        have a2 : ¬ 99999 < q.b := by omega
        have a3 : (q.ch.length : Int) < 1 := by omega
        simp [k130, Env.v_ini, qD, qC, chD, D.cells, D.one, a1, a2, a3, h3]
    · have a1 : ¬ q.b < 1 := by omega
      have a2 : 99999 < q.b := by omega
      simp [k130, Env.v_ini, qD, qC, chD, D.cells, D.one, a1, a2, h2]
  · have a1 : q.b < 1 := by omega
    simp [k130, Env.v_ini, qD, qC, chD, D.cells, D.one, a1, h1]
end Go.Proofs.YtlfknfknlcgfcaaGreatDoor
