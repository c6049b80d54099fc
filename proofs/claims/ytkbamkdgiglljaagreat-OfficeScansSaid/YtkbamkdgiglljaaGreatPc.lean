/- Frames of bytes, one behind the other: what is read of them; lists of entries in the heap. -/
import Derived.Test.YtkbamkdgiglljaaGreatPa
namespace Go.Proofs.YtkbamkdgiglljaaGreat
open Go Go.Em
set_option maxRecDepth 100000
def scN : Nat → List UInt8 → List Ent × Nat
  | 0, _ => ([], 0)
  | f + 1, l => if whoF l = true then (decX (bod l) :: (scN f (l.drop (8 + numF l))).1, 8 + numF l + (scN f (l.drop (8 + numF l))).2) else ([], 0)
def scF (l : List UInt8) : List Ent × Nat := scN l.length l
theorem who_le {l : List UInt8} (h : whoF l = true) : 8 ≤ l.length ∧ 8 + numF l ≤ l.length ∧ decF (bod l) = true ∧ sumF (bod l) = numF (l.drop 4) := by
  unfold whoF at h
  simp only [Bool.and_eq_true, decide_eq_true_eq] at h
  exact ⟨h.1.1.1, h.1.1.2, h.2, h.1.2⟩
theorem scN_more : ∀ (f g : Nat) (l : List UInt8), l.length ≤ f → l.length ≤ g → scN f l = scN g l := by
  intro f
  induction f with
  | zero =>
    intro g l h1 _
    obtain rfl := List.eq_nil_of_length_eq_zero (show l.length = 0 by omega)
    cases g with
    | zero => rfl
    | succ g => rfl
  | succ f ih =>
    intro g l h1 h2
    cases g with
    | zero =>
      obtain rfl := List.eq_nil_of_length_eq_zero (show l.length = 0 by omega)
      rfl
    | succ g =>
      unfold scN
      cases hw : whoF l with
      | false => rfl
      | true =>
        have := who_le hw
        rw [ih g (l.drop (8 + numF l)) (by rw [List.length_drop]; omega) (by rw [List.length_drop]; omega)]
theorem scF_step {l : List UInt8} (h : whoF l = true) : scF l = (decX (bod l) :: (scF (l.drop (8 + numF l))).1, 8 + numF l + (scF (l.drop (8 + numF l))).2) := by
  have h1 := who_le h
  unfold scF
  obtain ⟨n, hn⟩ : ∃ n, l.length = n + 1 := ⟨l.length - 1, by omega⟩
  rw [hn]
  show (if whoF l = true then _ else _) = _
  rw [if_pos h, scN_more n (l.drop (8 + numF l)).length _ (by rw [List.length_drop]; omega) (Nat.le_refl _)]
theorem scF_end {l : List UInt8} (h : whoF l = false) : scF l = ([], 0) := by
  unfold scF
  cases hl : l.length with
  | zero => rfl
  | succ n =>
    show (if whoF l = true then _ else _) = _
    rw [h]; rfl
def EL (h : Heap) (d : D) (es : List Ent) : Prop := (es = [] ∧ d = .val (.slice none 0 0)) ∨ ∃ k, d = .slr k 0 es.length 8 none ∧ h.get k = some (.cells 25 (es.flatMap entL)) ∧ k < h.next ∧ es ≠ []
def enD (es : List Ent) : D := .sl false (es.map entD)
theorem EL.keep {h h' : Heap} {d : D} {es : List Ent} (g : EL h d es) (hn : h.next ≤ h'.next) (hk : ∀ k, k < h.next → h'.get k = h.get k) : EL h' d es := by
  rcases g with g | ⟨k, h1, h2, h3, h4⟩
  · exact .inl g
  · exact .inr ⟨k, h1, by rw [hk k h3]; exact h2, by omega, h4⟩
theorem es_len (es : List Ent) : (es.flatMap entL).length = es.length * 8 := length_flatMap entL (fun _ => rfl) es
theorem es_can (es : List Ent) : D.canonL (es.flatMap entL) = true := canonL_flatMap entL (fun _ => rfl) es
theorem el_frz {h : Heap} {d : D} {es : List Ent} (g : EL h d es) (n : Nat) : ∃ ks, frz h (n + 2) d = some (enD es, ks) := by
  rcases g with ⟨rfl, rfl⟩ | ⟨k, rfl, hg, _, _⟩
  · exact ⟨[], rfl⟩
  · refine ⟨[k], ?_⟩
    show frz h ((n + 1) + 1) _ = _
    unfold frz
    have h1 : ((es.flatMap entL).drop 0).take (es.length * 8) = es.flatMap entL := by rw [List.drop_zero, List.take_of_length_le (by rw [es_len]; exact Nat.le_refl _)]
    have h2 : each (frz h (n + 1)) (es.flatMap entL) = some (es.flatMap entL, []) := each_canon h n _ (es_can es)
    simp only [D.canon, Bool.false_eq_true, if_false, hg, h1, h2, Option.map_some]
    rw [if_pos (by rw [es_len]; omega), chunk_flatMap entL (by decide) (fun _ => rfl) es _ rfl]
    rfl
theorem out_es {h : Heap} {d : D} {es : List Ent} (g : EL h d es) (e : Int) : out1 (some (.ret (.tup [d, D.int e]), h)) = some (.ret (.tup [enD es, D.int e])) := by
  obtain ⟨ks, h1⟩ := el_frz g 21
  have h2 : frz h 23 (D.int e) = some (D.int e, []) := by unfold frz; exact if_pos rfl
  have h3 : frz h depth (.tup [d, D.int e]) = some (.tup [enD es, D.int e], ks) := by
    show frz h (23 + 1) _ = _
    unfold frz
    have hc : (D.tup [d, D.int e]).canon = false := by
      rcases g with ⟨_, rfl⟩ | ⟨k, rfl, _⟩ <;> rfl
    rw [if_neg (by rw [hc]; simp)]
    show Option.map _ (match frz h 23 d, (match frz h 23 (D.int e), (some ([], []) : Option (List D × List Nat)) with | some (d, a), some (l, b) => some (d :: l, a ++ b) | _, _ => none) with | some (d, a), some (l, b) => some (d :: l, a ++ b) | _, _ => none) = _
    rw [h1, h2]; simp
  unfold out1
  simp only [h3, Option.map_some]
theorem Res.endsB {o : Option (Ex × St)} {id : Nat} {R : Rc} {rs : List (ResultVar × Bool × Nat)} {out : Out} {P : Ex → St → Prop} (h : Res o P) (hk : ∀ x s, P x s → endK R rs (blockK id (some (x, s))) = some out) : endK R rs (blockK id o) = some out := by
  obtain ⟨x, s, rfl, p⟩ := h; exact hk x s p
def scR (l : List UInt8) : D := .tup [enD (scF l).1, D.int (scF l).2]
end Go.Proofs.YtkbamkdgiglljaaGreat
/- The frames of bytes, by the program. -/
namespace Go.Proofs.YtkbamkdgiglljaaGreat
open Go Go.Em
set_option maxRecDepth 100000
def ScI (l : List UInt8) (i : Nat) (s : St) : Prop := ∃ (x : Env 26) (h : Heap) (off : Nat) (es : List Ent) (d : D), s = ⟨x.l, h, []⟩ ∧ off + i = l.length ∧ x.v 0 = bD l ∧ x.v 4 = d ∧ x.v 5 = D.int off ∧ EL h d es ∧ es.length ≤ off ∧ scF l = (es ++ (scF (l.drop off)).1, off + (scF (l.drop off)).2) ∧ h.Fr
def ScQ (l : List UInt8) (x : Ex) (s : St) : Prop := x = .ret ∧ ∃ (x : Env 26) (h : Heap) (d : D), s = ⟨x.l, h, []⟩ ∧ x.v 2 = d ∧ EL h d (scF l).1 ∧ x.v 3 = D.int (scF l).2
def ScJ (l : List UInt8) (i : Nat) (s : St) : Prop := ∃ j, j ≤ i ∧ ScI l j s
set_option maxHeartbeats 8000000 in
theorem sc_round (l : List UInt8) (hl : l.length ≤ 1000000) : ∀ n, 1100000 ≤ n → ∀ i s, ScJ l i s → Res (k19l0.ev ⟨pg, 26, none⟩ (rc pg n) s) (Rnd (ScJ l) (ScQ l) i) := by
  rintro n hn i s ⟨i0, hi0, x, h, off, es, d, rfl, hoff, v0, v4, v5, hel, hle, hsc, hf⟩
  have lR : (l.drop off).length = l.length - off := List.length_drop
  have cw := fun h => call_of (h := h) (pg := pg) (f := 55) rfl (bD_can (l.drop off)) (whole_run (n := n) (l.drop off) (by omega) (by omega))
  have hb : ((bL l).drop off).take (l.length - off) = bL (l.drop off) := by rw [bL_drop]; exact List.take_of_length_le (by rw [bL_len, lR]; exact Nat.le_refl _)
  have o1 : (off : Int) ≤ l.length := by omega
  have hfr : ∀ j, h.raw (h.next + j) = none := fun j => hf _ (by omega)
  unfold whoR at cw
  have hz : entD zeroE = .agg [D.int 0, D.int 0, D.int 0, D.int 0, D.int 0, D.int 0, D.int 0, .val (.string ⟨#[]⟩)] := rfl
  cases hw : whoF (l.drop off) with
  | false =>
    rw [hw] at cw
    simp only [Bool.false_eq_true, if_false, hz, bD] at cw v0
    have ne : ∀ k, k < h.next → ∀ j, (k = h.next + j) = False := fun k hk j => by simp; omega
    simp [k19l0, v0, v4, v5, o1, hb, head_bL, bL_len, cw, hfr, D.cells, D.one, Value.oneCell']
    rw [scF_end hw] at hsc
    refine ⟨rfl, _, _, d, rfl, by simp, ?_, by simp [hsc]⟩
    rw [hsc]
    simp only [List.append_nil]
    refine hel.keep (by simp <;> omega) fun k hk => ?_
    simp [ne k hk]
  | true =>
    rw [hw] at cw
    obtain ⟨w1, w2, w3, w4⟩ := who_le hw
    have hst := scF_step hw
    obtain ⟨X, hX⟩ : ∃ X, X = decX (bod (l.drop off)) := ⟨_, rfl⟩
    rw [← hX] at cw hst
    simp only [if_true, bD, entD, entL, strD] at cw v0
    obtain ⟨a, ha⟩ : ∃ a, a = numF (l.drop off) := ⟨_, rfl⟩
    rw [← ha] at cw w2 hst
    rw [lR] at w2
    have h0 : ((8 + (a : Int)) == 0) = false := by rw [beq_eq_false_iff_ne]; omega
    have wa : IntKind.i64.wrap ((off : Int) + (8 + (a : Int))) = (off : Int) + (8 + (a : Int)) := wrap_i64 (by omega) (by omega)
    have z8 : zerosD [Value.int .i64 0, Value.int .i64 0, Value.int .i64 0, Value.int .i64 0, Value.int .i64 0, Value.int .i64 0, Value.int .i64 0, Value.string ⟨#[]⟩] 8 1 = [D.int 0, D.int 0, D.int 0, D.int 0, D.int 0, D.int 0, D.int 0, D.val (.string ⟨#[]⟩)] := rfl
    have hsc2 : scF l = ((es ++ [X]) ++ (scF (l.drop (off + (8 + a)))).1, (off + (8 + a)) + (scF (l.drop (off + (8 + a)))).2) := by
      rw [hsc, hst, List.drop_drop]
      simp [Nat.add_assoc]
    have mx : es.length + 1 ≤ maxLen := by unfold maxLen; omega
    rcases hel with ⟨rfl, rfl⟩ | ⟨k, rfl, hg, hk, hne⟩
    · simp [k19l0, v0, v4, v5, o1, hb, head_bL, bL_len, cw, hfr, h0, wa, z8, room, maxLen, apK_some, D.cells, D.one, Value.oneCell', Nat.add_assoc]
      refine ⟨i - 1, by omega, l.length - (off + (8 + a)), by omega, _, _, off + (8 + a), [X], .slr (h.next + 74) 0 1 8 none, rfl, by omega, by simp [v0, bD], by simp, by simp, .inr ⟨h.next + 74, rfl, by simp [entL, strD], by simp <;> omega, by simp⟩, by simp; omega, by simpa using hsc2, ?_⟩
      repeat' first | exact hf | apply Heap.Fr.bump | apply Heap.Fr.set
      all_goals (simp <;> omega)
    · have ne1 : ∀ j, (k = h.next + j) = False := fun j => by simp; omega
      have ne2 : ∀ j, (h.next + j = k) = False := fun j => by simp; omega
      obtain ⟨C, hC⟩ : ∃ C, C = es.flatMap entL := ⟨_, rfl⟩
      have hCl : C.length = es.length * 8 := by rw [hC]; exact es_len es
      rw [← hC] at hg
      have ap := fun (h : Heap) (t : Nat) (news : List D) => appS_none (t := t) (et := 25) (sz := 8) (bytes := 72) (h := h) (m := 1) (news := news) (k := k) (n := es.length) (cs := C) hCl (by omega) (by unfold room; omega) mx
      simp [k19l0, v0, v4, v5, o1, hb, head_bL, bL_len, cw, hfr, h0, wa, z8, hg, ne1, ne2, ap, apK_some, D.cells, D.one, Value.oneCell', Nat.add_assoc]
      refine ⟨i - 1, by omega, l.length - (off + (8 + a)), by omega, _, _, off + (8 + a), es ++ [X], .slr (h.next + 74) 0 (es.length + 1) 8 none, rfl, by omega, by simp [v0, bD], by simp, by simp, .inr ⟨h.next + 74, by simp, by simp [entL, strD, hC], by simp <;> omega, by simp⟩, by simp; omega, by simpa using hsc2, ?_⟩
      repeat' first | exact hf | apply Heap.Fr.bump | apply Heap.Fr.set
      all_goals (simp <;> omega)
theorem scan_run (l : List UInt8) (hl : l.length ≤ 1000000) {n : Nat} (hn : 2300000 ≤ n) : pureCall (rc pg n) 19 [bD l] = some (.ret (scR l)) := by
  obtain ⟨m, rfl, e⟩ := body (pg := pg) (f := 19) (args := [bD l]) (show 0 < n by omega) rfl rfl
  rw [e]
  simp [k19, ev_loop]
  refine Res.endsB (lp_rule 1100000 (ScJ l) _ (sc_round l hl) l.length m _ (by omega) ⟨l.length, Nat.le_refl _, _, _, 0, [], _, rfl, by omega, by simp [Env.v_ini], rfl, by simp, .inl ⟨rfl, by simp⟩, by simp, by simp, ?_⟩) ?_
  · repeat' first | exact Heap.Fr.empty | apply Heap.Fr.bump | apply Heap.Fr.set
  rintro y s ⟨rfl, x, h, d, rfl, v2, g, v3⟩
  have := out_es g (scF l).2
  simp [-out1, v2, v3]
  exact this
end Go.Proofs.YtkbamkdgiglljaaGreat
/- The frames of bytes, by the document. -/
namespace Go.Proofs.YtkbamkdgiglljaaGreat
open Go Go.Em
set_option maxRecDepth 100000
def RsI (l : List UInt8) (i : Nat) (s : St) : Prop := ∃ (x : Env 26) (h : Heap) (off : Nat) (es : List Ent) (d : D), s = ⟨x.l, h, []⟩ ∧ off + i = l.length ∧ x.v 0 = bD l ∧ x.v 4 = d ∧ x.v 5 = D.int off ∧ EL h d es ∧ es.length ≤ off ∧ scF l = (es ++ (scF (l.drop off)).1, off + (scF (l.drop off)).2) ∧ h.Fr
def RsQ (l : List UInt8) (x : Ex) (s : St) : Prop := x = .ret ∧ ∃ (x : Env 26) (h : Heap) (d : D), s = ⟨x.l, h, []⟩ ∧ x.v 2 = d ∧ EL h d (scF l).1 ∧ x.v 3 = D.int (scF l).2
def RsJ (l : List UInt8) (i : Nat) (s : St) : Prop := ∃ j, j ≤ i ∧ RsI l j s
set_option maxHeartbeats 8000000 in
theorem rs_round (l : List UInt8) (hl : l.length ≤ 1000000) : ∀ n, 1100000 ≤ n → ∀ i s, RsJ l i s → Res (k20l0.ev ⟨pg, 26, none⟩ (rc pg n) s) (Rnd (RsJ l) (RsQ l) i) := by
  rintro n hn i s ⟨i0, hi0, x, h, off, es, d, rfl, hoff, v0, v4, v5, hel, hle, hsc, hf⟩
  have lR : (l.drop off).length = l.length - off := List.length_drop
  have cw := fun h => call_of (h := h) (pg := pg) (f := 56) rfl (bD_can (l.drop off)) (rwhole_run (n := n) (l.drop off) (by omega) (by omega))
  have hb : ((bL l).drop off).take (l.length - off) = bL (l.drop off) := by rw [bL_drop]; exact List.take_of_length_le (by rw [bL_len, lR]; exact Nat.le_refl _)
  have o1 : (off : Int) ≤ l.length := by omega
  have hfr : ∀ j, h.raw (h.next + j) = none := fun j => hf _ (by omega)
  unfold whoR at cw
  have hz : entD zeroE = .agg [D.int 0, D.int 0, D.int 0, D.int 0, D.int 0, D.int 0, D.int 0, .val (.string ⟨#[]⟩)] := rfl
  cases hw : whoF (l.drop off) with
  | false =>
    rw [hw] at cw
    simp only [Bool.false_eq_true, if_false, hz, bD] at cw v0
    have ne : ∀ k, k < h.next → ∀ j, (k = h.next + j) = False := fun k hk j => by simp; omega
    simp [k20l0, v0, v4, v5, o1, hb, head_bL, bL_len, cw, hfr, D.cells, D.one, Value.oneCell']
    rw [scF_end hw] at hsc
    refine ⟨rfl, _, _, d, rfl, by simp, ?_, by simp [hsc]⟩
    rw [hsc]
    simp only [List.append_nil]
    refine hel.keep (by simp <;> omega) fun k hk => ?_
    simp [ne k hk]
  | true =>
    rw [hw] at cw
    obtain ⟨w1, w2, w3, w4⟩ := who_le hw
    have hst := scF_step hw
    obtain ⟨X, hX⟩ : ∃ X, X = decX (bod (l.drop off)) := ⟨_, rfl⟩
    rw [← hX] at cw hst
    simp only [if_true, bD, entD, entL, strD] at cw v0
    obtain ⟨a, ha⟩ : ∃ a, a = numF (l.drop off) := ⟨_, rfl⟩
    rw [← ha] at cw w2 hst
    rw [lR] at w2
    have h0 : ((8 + (a : Int)) == 0) = false := by rw [beq_eq_false_iff_ne]; omega
    have wa : IntKind.i64.wrap ((off : Int) + (8 + (a : Int))) = (off : Int) + (8 + (a : Int)) := wrap_i64 (by omega) (by omega)
    have z8 : zerosD [Value.int .i64 0, Value.int .i64 0, Value.int .i64 0, Value.int .i64 0, Value.int .i64 0, Value.int .i64 0, Value.int .i64 0, Value.string ⟨#[]⟩] 8 1 = [D.int 0, D.int 0, D.int 0, D.int 0, D.int 0, D.int 0, D.int 0, D.val (.string ⟨#[]⟩)] := rfl
    have hsc2 : scF l = ((es ++ [X]) ++ (scF (l.drop (off + (8 + a)))).1, (off + (8 + a)) + (scF (l.drop (off + (8 + a)))).2) := by
      rw [hsc, hst, List.drop_drop]
      simp [Nat.add_assoc]
    have mx : es.length + 1 ≤ maxLen := by unfold maxLen; omega
    rcases hel with ⟨rfl, rfl⟩ | ⟨k, rfl, hg, hk, hne⟩
    · simp [k20l0, v0, v4, v5, o1, hb, head_bL, bL_len, cw, hfr, h0, wa, z8, room, maxLen, apK_some, D.cells, D.one, Value.oneCell', Nat.add_assoc]
      refine ⟨i - 1, by omega, l.length - (off + (8 + a)), by omega, _, _, off + (8 + a), [X], .slr (h.next + 74) 0 1 8 none, rfl, by omega, by simp [v0, bD], by simp, by simp, .inr ⟨h.next + 74, rfl, by simp [entL, strD], by simp <;> omega, by simp⟩, by simp; omega, by simpa using hsc2, ?_⟩
      repeat' first | exact hf | apply Heap.Fr.bump | apply Heap.Fr.set
      all_goals (simp <;> omega)
    · have ne1 : ∀ j, (k = h.next + j) = False := fun j => by simp; omega
      have ne2 : ∀ j, (h.next + j = k) = False := fun j => by simp; omega
      obtain ⟨C, hC⟩ : ∃ C, C = es.flatMap entL := ⟨_, rfl⟩
      have hCl : C.length = es.length * 8 := by rw [hC]; exact es_len es
      rw [← hC] at hg
      have ap := fun (h : Heap) (t : Nat) (news : List D) => appS_none (t := t) (et := 25) (sz := 8) (bytes := 72) (h := h) (m := 1) (news := news) (k := k) (n := es.length) (cs := C) hCl (by omega) (by unfold room; omega) mx
      simp [k20l0, v0, v4, v5, o1, hb, head_bL, bL_len, cw, hfr, h0, wa, z8, hg, ne1, ne2, ap, apK_some, D.cells, D.one, Value.oneCell', Nat.add_assoc]
      refine ⟨i - 1, by omega, l.length - (off + (8 + a)), by omega, _, _, off + (8 + a), es ++ [X], .slr (h.next + 74) 0 (es.length + 1) 8 none, rfl, by omega, by simp [v0, bD], by simp, by simp, .inr ⟨h.next + 74, by simp, by simp [entL, strD, hC], by simp <;> omega, by simp⟩, by simp; omega, by simpa using hsc2, ?_⟩
      repeat' first | exact hf | apply Heap.Fr.bump | apply Heap.Fr.set
      all_goals (simp <;> omega)
theorem rscan_run (l : List UInt8) (hl : l.length ≤ 1000000) {n : Nat} (hn : 2300000 ≤ n) : pureCall (rc pg n) 20 [bD l] = some (.ret (scR l)) := by
  obtain ⟨m, rfl, e⟩ := body (pg := pg) (f := 20) (args := [bD l]) (show 0 < n by omega) rfl rfl
  rw [e]
  simp [k20, ev_loop]
  refine Res.endsB (lp_rule 1100000 (RsJ l) _ (rs_round l hl) l.length m _ (by omega) ⟨l.length, Nat.le_refl _, _, _, 0, [], _, rfl, by omega, by simp [Env.v_ini], rfl, by simp, .inl ⟨rfl, by simp⟩, by simp, by simp, ?_⟩) ?_
  · repeat' first | exact Heap.Fr.empty | apply Heap.Fr.bump | apply Heap.Fr.set
  rintro y s ⟨rfl, x, h, d, rfl, v2, g, v3⟩
  have := out_es g (scF l).2
  simp [-out1, v2, v3]
  exact this
end Go.Proofs.YtkbamkdgiglljaaGreat
/- Equal lists of entries are found equal; numbers modulo. -/
namespace Go.Proofs.YtkbamkdgiglljaaGreat
open Go Go.Em
set_option maxRecDepth 100000
theorem esL_can (es : List Ent) : D.canonL (es.map entD) = true := by
  induction es with
  | nil => rfl
  | cons x es ih => simp only [List.map_cons, D.canonL, ih, Bool.and_true]; rfl
theorem enD_can2 (es fs : List Ent) : D.canonL [enD es, enD fs] = true := by simp [enD, esL_can]
def SmI (es : List Ent) (i : Nat) (s : St) : Prop := ∃ (x : Env 26) (h : Heap) (j : Nat), s = ⟨x.l, h, []⟩ ∧ j + i = es.length ∧ x.v 0 = enD es ∧ x.v 1 = enD es ∧ x.v 12 = D.int es.length ∧ x.v 13 = D.int j
set_option maxHeartbeats 2000000 in
theorem sm_round (es : List Ent) (hes : es.length ≤ 1000000) : ∀ n, 1 ≤ n → ∀ i s, SmI es i s → Res (k21l0.ev ⟨pg, 26, none⟩ (rc pg n) s) (Rnd (SmI es) (fun x s => x = .exit 0 ∧ SmI es 0 s) i) := by
  rintro n hn i s ⟨x, h, j, rfl, hij, v0, v1, v12, v13⟩
  by_cases hj : j < es.length
  · obtain ⟨X, hX⟩ : ∃ X, es[j] = X := ⟨_, rfl⟩
    have w1 : IntKind.i64.wrap ((j : Int) + 1) = (j : Int) + 1 := wrap_i64 (by omega) (by omega)
    have eqs : ∀ t : List UInt8, ((⟨t.toArray⟩ : ByteArray) == ⟨t.toArray⟩) = true := fun t => by rw [str_eq]; simp
    have hg : (es.map entD)[j]? = some (.agg [D.int X.o, D.int X.s, D.int X.k, D.int X.h, D.int X.r, D.int X.fo, D.int X.fs, .val (.string ⟨X.t.toArray⟩)]) := by
      rw [List.getElem?_map, List.getElem?_eq_getElem hj, hX]; rfl
    simp only [enD] at v0 v1
    obtain ⟨L, hL⟩ : ∃ L, L = es.map entD := ⟨_, rfl⟩
    rw [← hL] at hg v0 v1
    simp [k21l0, v0, v1, v12, v13, hj, hg, w1, eqs, D.cells]
    exact ⟨i - 1, by omega, _, _, j + 1, rfl, by omega, by simp [v0, enD, hL], by simp [v1, enD, hL], by simp [v12], by simp⟩
  · obtain rfl : j = es.length := by omega
    simp [k21l0, v12, v13]
    exact ⟨_, _, es.length, rfl, by omega, by simp [v0], by simp [v1], by simp [v12], by simp [v13]⟩
theorem same_run (es : List Ent) (hes : es.length ≤ 1000000) {n : Nat} (hn : 1100000 ≤ n) : pureCall (rc pg n) 21 [enD es, enD es] = some (.ret (D.bool true)) := by
  obtain ⟨m, rfl, e⟩ := body (pg := pg) (f := 21) (args := [enD es, enD es]) (show 0 < n by omega) rfl rfl
  rw [e]
  have hne : ((es.length : Int) != es.length) = false := by simp
  simp [-bne_self_eq_false, k21, Env.v_ini, enD, ev_loop, hne]
  refine Res.endsAfter (lp_rule 1 (SmI es) _ (sm_round es hes) es.length m _ (by omega) ⟨_, _, 0, rfl, by omega, by simp [Env.v_ini, enD], by simp [Env.v_ini, enD], by simp, by simp⟩) ?_
  rintro x s ⟨rfl, x, h, j, rfl, hj, v0, v1, v12, v13⟩
  simp
theorem mod_run (c : Int) (q : Nat) (h0 : 0 < q) (h1 : q ≤ 1000000) {n : Nat} (hn : 1 ≤ n) : ∃ k : Nat, k < q ∧ pureCall (rc pg n) 18 [D.int c, D.int q] = some (.ret (D.int k)) := by
  obtain ⟨m, rfl, e⟩ := body (pg := pg) (f := 18) (args := [D.int c, D.int q]) (show 0 < n by omega) rfl rfl
  rw [e]
  have hq : (q : Int) ≠ 0 := by omega
  have ta : (c.tmod q).natAbs < q := by
    rw [Int.natAbs_tmod]; exact Nat.mod_lt _ (by omega)
  obtain ⟨t, ht⟩ : ∃ t, t = c.tmod q := ⟨_, rfl⟩
  rw [← ht] at ta
  have w1 : IntKind.i64.wrap (t + q) = t + q := wrap_i64 (by omega) (by omega)
  have r1 := Int.tmod_lt_of_pos (t + q) (show (0 : Int) < q by omega)
  have r2 : 0 ≤ (t + q).tmod q := Int.tmod_nonneg _ (by omega)
  obtain ⟨k, hk⟩ := Int.eq_ofNat_of_zero_le r2
  refine ⟨k, by omega, ?_⟩
  have b1 := bin_rem (k := .i64) (a := c) hq
  have b2 := bin_rem (k := .i64) (a := t + q) hq
  rw [← ht] at b1
  rw [hk] at b2
  simp [k18, Env.v_ini, b1, b2, w1]
end Go.Proofs.YtkbamkdgiglljaaGreat
