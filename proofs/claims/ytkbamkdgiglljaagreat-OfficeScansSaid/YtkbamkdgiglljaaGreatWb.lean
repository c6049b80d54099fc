/- Frames of entries, one behind the other, and the beginnings of them: what is read of them. -/
import Derived.Test.YtkbamkdgiglljaaGreatPc
namespace Go.Proofs.YtkbamkdgiglljaaGreat
open Go Go.Em
set_option maxRecDepth 100000
theorem num_four {n : Nat} (h : n < 4294967296) (r : List UInt8) : numF (fourL n ++ r) = n := by
  unfold fourL
  simp only [List.cons_append, List.nil_append]
  rw [numF_cons]
  simp only [UInt8.toNat_ofNat']
  omega
theorem dec_enc {x : Ent} (h : okF x = true) : decF (encL x) = true ∧ decX (encL x) = x := by
  obtain ⟨o, s, k, hh, r, fo, fs, hx, b1, b2, b3, b4, b5, b6, b7, b8, b9⟩ := ok_nat h
  have hl : encL x = e20 o s k hh r fo fs x.t.length ++ x.t := by
    unfold encL
    rw [if_pos h]
    have e : e20x x = e20 o s k hh r fo fs x.t.length := by rw [hx]; rfl
    rw [e]
  rw [hl]
  obtain ⟨l, hl2⟩ : ∃ l, l = e20 o s k hh r fo fs x.t.length ++ x.t := ⟨_, rfl⟩
  have d0 : l[0]?.getD 0 = UInt8.ofNat o := by rw [hl2]; rfl
  have d5 : l[5]?.getD 0 = UInt8.ofNat k := by rw [hl2]; rfl
  have d10 : l[10]?.getD 0 = UInt8.ofNat r := by rw [hl2]; rfl
  have d11 : l[11]?.getD 0 = UInt8.ofNat fo := by rw [hl2]; rfl
  have n1 : numF (l.drop 1) = s := by
    have : l.drop 1 = fourL s ++ l.drop 5 := by rw [hl2]; rfl
    rw [this, num_four (by omega)]
  have n6 : numF (l.drop 6) = hh := by
    have : l.drop 6 = fourL hh ++ l.drop 10 := by rw [hl2]; rfl
    rw [this, num_four (by omega)]
  have n12 : numF (l.drop 12) = fs := by
    have : l.drop 12 = fourL fs ++ l.drop 16 := by rw [hl2]; rfl
    rw [this, num_four (by omega)]
  have n16 : numF (l.drop 16) = x.t.length := by
    have : l.drop 16 = fourL x.t.length ++ l.drop 20 := by rw [hl2]; rfl
    rw [this, num_four (by omega)]
  have d20 : l.drop 20 = x.t := by rw [hl2]; rfl
  have len : l.length = 20 + x.t.length := by rw [hl2]; simp [e20, fourL]; omega
  have hX : decX l = x := by
    unfold decX
    rw [d0, d5, d10, d11, n1, n6, n12, d20]
    simp only [UInt8.toNat_ofNat']
    rw [Nat.mod_eq_of_lt (show o < 2 ^ 8 by omega), Nat.mod_eq_of_lt (show k < 2 ^ 8 by omega), Nat.mod_eq_of_lt (show r < 2 ^ 8 by omega), Nat.mod_eq_of_lt (show fo < 2 ^ 8 by omega)]
    exact hx.symm
  rw [← hl2]
  refine ⟨?_, hX⟩
  unfold decF
  rw [hX, h, n16, decide_eq_true (show 20 ≤ l.length by omega), decide_eq_true (show x.t.length = l.length - 20 by omega)]
  rfl
theorem frL_len (b : List UInt8) : (frL b).length = 8 + b.length := by simp [frL, fourL]; omega
theorem who_frame {x : Ent} (h : okF x = true) (r : List UInt8) : whoF (frL (encL x) ++ r) = true ∧ bod (frL (encL x) ++ r) = encL x ∧ numF (frL (encL x) ++ r) = (encL x).length ∧ decX (bod (frL (encL x) ++ r)) = x := by
  obtain ⟨e1, e2⟩ := enc_len h
  obtain ⟨d1, d2⟩ := dec_enc h
  obtain ⟨b, hb⟩ : ∃ b, b = encL x := ⟨_, rfl⟩
  rw [← hb] at e1 e2 d1 d2 ⊢
  have hs := sumF_lt b
  obtain ⟨l, hl⟩ : ∃ l, l = frL b ++ r := ⟨_, rfl⟩
  rw [← hl]
  have n0 : numF l = b.length := by
    have : l = fourL b.length ++ (fourL (sumF b) ++ (b ++ r)) := by rw [hl, frL]; simp
    rw [this, num_four (by omega)]
  have n4 : numF (l.drop 4) = sumF b := by
    have : l.drop 4 = fourL (sumF b) ++ (b ++ r) := by rw [hl, frL]; simp [fourL]
    rw [this, num_four (by omega)]
  have d8 : l.drop 8 = b ++ r := by rw [hl, frL]; simp [fourL]
  have hbod : bod l = b := by unfold bod; rw [n0, d8]; exact List.take_left' rfl
  have len : l.length = 8 + b.length + r.length := by rw [hl, List.length_append, frL_len]
  refine ⟨?_, hbod, n0, by rw [hbod]; exact d2⟩
  unfold whoF
  rw [hbod, d1, n0, n4, decide_eq_true (show 8 ≤ l.length by omega), decide_eq_true (show 8 + b.length ≤ l.length by omega)]
  simp
def frsL (V : List Ent) : List UInt8 := V.flatMap fun x => frL (encL x)
theorem scF_frames : ∀ (V : List Ent) (r : List UInt8), (∀ x ∈ V, okF x = true) → scF (frsL V ++ r) = (V ++ (scF r).1, (frsL V).length + (scF r).2)
  | [], r, _ => by simp [frsL]
  | x :: V, r, h => by
    have hx := h x (by simp)
    obtain ⟨w1, w2, w3, w4⟩ := who_frame hx (frsL V ++ r)
    have e : frsL (x :: V) ++ r = frL (encL x) ++ (frsL V ++ r) := by simp [frsL]
    have hd : (frL (encL x) ++ (frsL V ++ r)).drop (8 + (encL x).length) = frsL V ++ r := List.drop_left' (frL_len _)
    rw [e, scF_step w1, w3, w4, hd, scF_frames V r fun y hy => h y (by simp [hy])]
    have l1 : (frsL (x :: V)).length = 8 + (encL x).length + (frsL V).length := by
      show (frL (encL x) ++ frsL V).length = _
      rw [List.length_append, frL_len]
    rw [l1]
    simp [Nat.add_assoc]
theorem who_cut {b : List UInt8} (hb : b.length < 4294967296) {j : Nat} (hj : j < 8 + b.length) : whoF ((frL b).take j) = false := by
  have lp : ((frL b).take j).length = j := by rw [List.length_take, frL_len]; omega
  unfold whoF
  by_cases h8 : 8 ≤ j
  · have n0 : numF ((frL b).take j) = b.length := by
      have : (frL b).take j = fourL b.length ++ (fourL (sumF b) ++ b).take (j - 4) := by
        rw [frL, List.take_append, List.take_of_length_le (show (fourL b.length).length ≤ j by show 4 ≤ j; omega)]; rfl
      rw [this, num_four hb]
    rw [lp, n0, decide_eq_false (show ¬ 8 + b.length ≤ j by omega)]
    simp
  · rw [lp, decide_eq_false h8]; simp
theorem scF_cut {V : List Ent} (h : ∀ x ∈ V, okF x = true) {k w : Nat} (hw : w ≤ V.length) (h1 : (frsL (V.take w)).length ≤ k) (h2 : w = V.length ∧ k ≤ (frsL V).length ∨ ∃ h : w < V.length, k < (frsL (V.take (w + 1))).length) : scF ((frsL V).take k) = (V.take w, (frsL (V.take w)).length) := by
  have hv : frsL V = frsL (V.take w) ++ frsL (V.drop w) := by
    have : frsL (V.take w ++ V.drop w) = frsL (V.take w) ++ frsL (V.drop w) := by unfold frsL; rw [List.flatMap_append]
    rw [List.take_append_drop] at this
    exact this
  have hok : ∀ x ∈ V.take w, okF x = true := fun x hx => h x (List.mem_of_mem_take hx)
  have e : (frsL V).take k = frsL (V.take w) ++ (frsL (V.drop w)).take (k - (frsL (V.take w)).length) := by
    rw [hv, List.take_append, List.take_of_length_le h1]
  have hr : scF ((frsL (V.drop w)).take (k - (frsL (V.take w)).length)) = ([], 0) := by
    rcases h2 with ⟨rfl, _⟩ | ⟨hlt, hk⟩
    · rw [List.drop_length]; simp [frsL, scF, scN]
    · have hd : V.drop w = V[w] :: V.drop (w + 1) := List.drop_eq_getElem_cons hlt
      have ht : V.take (w + 1) = V.take w ++ [V[w]] := by rw [List.take_add_one, List.getElem?_eq_getElem hlt]; rfl
      have hx := h V[w] (List.getElem_mem hlt)
      have e2 := (enc_len hx).2
      rw [ht] at hk
      have l2 : (frsL (V.take w ++ [V[w]])).length = (frsL (V.take w)).length + (8 + (encL V[w]).length) := by
        unfold frsL; rw [List.flatMap_append, List.length_append, List.flatMap_singleton, frL_len]
      rw [l2] at hk
      have e3 : (frsL (V.drop w)).take (k - (frsL (V.take w)).length) = (frL (encL V[w])).take (k - (frsL (V.take w)).length) := by
        rw [hd]
        show (frL (encL V[w]) ++ frsL (V.drop (w + 1))).take _ = _
        rw [List.take_append_of_le_length (by rw [frL_len]; omega)]
      rw [e3]
      exact scF_end (who_cut (by omega) (by omega))
  rw [e, scF_frames _ _ hok, hr]
  simp
end Go.Proofs.YtkbamkdgiglljaaGreat
/- The law of scans: the frames of the valid entries are put together. -/
namespace Go.Proofs.YtkbamkdgiglljaaGreat
open Go Go.Em
set_option maxRecDepth 100000
def endsF (V : List Ent) : List Int := (List.range V.length).map fun i => ((frsL (V.take (i + 1))).length : Int)
theorem endsF_len (V : List Ent) : (endsF V).length = V.length := by simp [endsF]
theorem endsF_snoc (V : List Ent) (x : Ent) : endsF (V ++ [x]) = endsF V ++ [((frsL (V ++ [x])).length : Int)] := by
  unfold endsF
  rw [List.length_append, List.length_singleton, List.range_succ, List.map_append, List.map_singleton]
  congr 1
  · apply List.map_congr_left
    intro i hi
    rw [List.mem_range] at hi
    rw [List.take_append_of_le_length (by omega)]
  · rw [List.take_of_length_le (by simp)]
theorem frsL_snoc (V : List Ent) (x : Ent) : frsL (V ++ [x]) = frsL V ++ frL (encL x) := by unfold frsL; rw [List.flatMap_append, List.flatMap_singleton]
def L3 (h : Heap) (d7 d8 d9 : D) (V : List Ent) : Prop :=
  (V = [] ∧ d7 = .val (.slice none 0 0) ∧ d8 = .val (.slice none 0 0) ∧ d9 = .val (.slice none 0 0)) ∨
  ∃ k7 k8 k9, d7 = .slr k7 0 (frsL V).length 1 none ∧ d8 = .slr k8 0 V.length 8 none ∧ d9 = .slr k9 0 V.length 1 none ∧ h.get k7 = some (.cells 5 (bL (frsL V))) ∧ h.get k8 = some (.cells 25 (V.flatMap entL)) ∧ h.get k9 = some (.cells 3 ((endsF V).map D.int)) ∧ k7 < h.next ∧ k8 < h.next ∧ k9 < h.next ∧ V ≠ []
theorem L3.keep {h h' : Heap} {d7 d8 d9 : D} {V : List Ent} (g : L3 h d7 d8 d9 V) (hn : h.next ≤ h'.next) (hk : ∀ k, k < h.next → h'.get k = h.get k) : L3 h' d7 d8 d9 V := by
  rcases g with g | ⟨k7, k8, k9, a1, a2, a3, g7, g8, g9, l7, l8, l9, hne⟩
  · exact .inl g
  · exact .inr ⟨k7, k8, k9, a1, a2, a3, by rw [hk k7 l7]; exact g7, by rw [hk k8 l8]; exact g8, by rw [hk k9 l9]; exact g9, by omega, by omega, by omega, hne⟩
def LpI (es : List Ent) (c : Int) (t : List UInt8) (i : Nat) (s : St) : Prop := ∃ (x : Env 153) (h : Heap) (j : Nat) (V : List Ent) (d7 d8 d9 : D), s = ⟨x.l, h, []⟩ ∧ j + i = es.length ∧ j ≤ 20 ∧ x.v 0 = enD es ∧ x.v 1 = bD t ∧ x.v 2 = D.int c ∧ x.v 7 = d7 ∧ x.v 8 = d8 ∧ x.v 9 = d9 ∧ x.v 10 = D.int j ∧ L3 h d7 d8 d9 V ∧ V.length ≤ j ∧ (∀ y ∈ V, okF y = true) ∧ h.Fr
theorem frs_len {V : List Ent} (h : ∀ y ∈ V, okF y = true) : (frsL V).length ≤ 9100 * V.length := by
  induction V with
  | nil => simp [frsL]
  | cons x V ih =>
    have := ih fun y hy => h y (by simp [hy])
    have h2 := (enc_len (h x (by simp))).2
    show (frL (encL x) ++ frsL V).length ≤ _
    rw [List.length_append, frL_len, List.length_cons]
    omega
set_option maxHeartbeats 16000000 in
theorem lp_round (es : List Ent) (c : Int) (t : List UInt8) (hes : es.length ≤ 9000000000000000) : ∀ n, 30000 ≤ n → ∀ i s, LpI es c t i s → Res (k4l0.ev ⟨pg, 153, none⟩ (rc pg n) s) (Rnd (LpI es c t) (fun x s => x = .exit 0 ∧ ∃ i, LpI es c t i s) i) := by
  rintro n hn i s ⟨x, h, j, V, d7, d8, d9, rfl, hij, hj20, v0, v1, v2, v7, v8, v9, v10, hl3, hVj, hok, hf⟩
  have hfr : ∀ j, h.raw (h.next + j) = none := fun j => hf _ (by omega)
  have w1 : IntKind.i64.wrap ((j : Int) + 1) = (j : Int) + 1 := wrap_i64 (by omega) (by omega)
  by_cases hj : j < es.length
  · have hjz : (j : Int) < es.length := by omega
    by_cases hj2 : j < 20
    · have hj2z : (j : Int) < 20 := by omega
      obtain ⟨X, hX⟩ : ∃ X, es[j] = X := ⟨_, rfl⟩
      obtain ⟨L, hL⟩ : ∃ L, L = es.map entD := ⟨_, rfl⟩
      have lL : L.length = es.length := by rw [hL]; simp
      have hg : L[j]? = some (.agg [D.int X.o, D.int X.s, D.int X.k, D.int X.h, D.int X.r, D.int X.fo, D.int X.fs, .val (.string ⟨X.t.toArray⟩)]) := by
        rw [hL, List.getElem?_map, List.getElem?_eq_getElem hj, hX]; rfl
      have cf := fun h => call_of (h := h) (pg := pg) (f := 9) rfl (entD_can X) (frame_run (n := n) (by omega) X)
      unfold frmR frmL erI at cf
      have v0' : x.v 0 = .sl false L := by rw [v0, enD, hL]
      simp only [entD, entL, strD, bD] at cf v1
      cases hx : okF X with
      | false =>
        rw [hx] at cf
        simp only [Bool.false_eq_true, if_false] at cf
        simp [k4l0, v0', v10, lL, hjz, hj2z, hg, cf, w1, D.cells]
        refine ⟨i - 1, by omega, _, _, j + 1, V, d7, d8, d9, rfl, by omega, by omega, by simp [v0], by simp [v1, bD], by simp [v2], by simp [v7], by simp [v8], by simp [v9], by simp, hl3.keep (by simp; omega) (fun k hk => by simp), by omega, hok, ?_⟩
        repeat' first | exact hf | apply Heap.Fr.bump
      | true =>
        rw [hx] at cf
        simp only [if_true] at cf
        have hV1 : ∀ y ∈ V ++ [X], okF y = true := fun y hy => by
          rcases List.mem_append.1 hy with h1 | h1
          · exact hok y h1
          · rw [List.mem_singleton] at h1; subst h1; exact hx
        have hfl := frs_len hok
        have he := enc_len hx
        obtain ⟨F, hF⟩ : ∃ F, F = frL (encL X) := ⟨_, rfl⟩
        have lF : F.length = 8 + (encL X).length := by rw [hF]; exact frL_len _
        rw [← hF] at cf
        have lF0 : F.length ≠ 0 := by omega
        have lF1 : 0 < F.length := by omega
        have z8 : zerosD [Value.int .i64 0, Value.int .i64 0, Value.int .i64 0, Value.int .i64 0, Value.int .i64 0, Value.int .i64 0, Value.int .i64 0, Value.string ⟨#[]⟩] 8 1 = [D.int 0, D.int 0, D.int 0, D.int 0, D.int 0, D.int 0, D.int 0, D.val (.string ⟨#[]⟩)] := rfl
        have z1 : zerosD [Value.int .i64 0] 1 1 = [D.int 0] := rfl
        rcases hl3 with ⟨rfl, rfl, rfl, rfl⟩ | ⟨k7, k8, k9, rfl, rfl, rfl, g7, g8, g9, l7, l8, l9, hne⟩
        · have r1 : F.length ≤ 140737488355328 := by omega
          have r2 : F.length ≤ maxLen := by unfold maxLen; omega
          have r3 : 1 ≤ maxLen := by unfold maxLen; omega
          simp [-src_sl, k4l0, v0', v7, v8, v9, v10, lL, hjz, hj2z, hg, cf, w1, hfr, z8, z1, src_bL, bL_one, bL_len, apK_some, lF0, room, r1, r2, r3, D.cells, D.one, Value.oneCell', Nat.add_assoc]
          have hfX : frsL [X] = F := by rw [hF]; simp [frsL]
          have heX : endsF [X] = [(F.length : Int)] := by simp [endsF, hfX]
          refine ⟨i - 1, by omega, _, _, j + 1, [X], .slr (h.next + 513) 0 F.length 1 none, .slr (h.next + 673) 0 1 8 none, .slr (h.next + 831) 0 1 1 none, rfl, by omega, by omega, by simp [v0], by simp [v1, bD], by simp [v2], by simp, by simp, by simp, by simp, .inr ⟨h.next + 513, h.next + 673, h.next + 831, by rw [hfX], rfl, rfl, by rw [hfX]; simp, by simp [entL, strD], by rw [heX]; simp, by simp <;> omega, by simp <;> omega, by simp <;> omega, by simp⟩, by simp, hV1, ?_⟩
          repeat' first | exact hf | apply Heap.Fr.bump | apply Heap.Fr.set
          all_goals (simp <;> omega)
        · have n78 : (k7 = k8) = False := by simp; rintro rfl; rw [g7] at g8; cases g8
          have n87 : (k8 = k7) = False := by simp; rintro rfl; rw [g7] at g8; cases g8
          have n79 : (k7 = k9) = False := by simp; rintro rfl; rw [g7] at g9; cases g9
          have n97 : (k9 = k7) = False := by simp; rintro rfl; rw [g7] at g9; cases g9
          have n89 : (k8 = k9) = False := by simp; rintro rfl; rw [g8] at g9; cases g9
          have n98 : (k9 = k8) = False := by simp; rintro rfl; rw [g8] at g9; cases g9
          have m7 : ∀ j, (k7 = h.next + j) = False := fun j => by simp; omega
          have m8 : ∀ j, (k8 = h.next + j) = False := fun j => by simp; omega
          have m9 : ∀ j, (k9 = h.next + j) = False := fun j => by simp; omega
          have m7' : ∀ j, (h.next + j = k7) = False := fun j => by simp; omega
          have m8' : ∀ j, (h.next + j = k8) = False := fun j => by simp; omega
          have m9' : ∀ j, (h.next + j = k9) = False := fun j => by simp; omega
          obtain ⟨q, hq⟩ : ∃ q, q = (frsL V).length := ⟨_, rfl⟩
          obtain ⟨B, hB⟩ : ∃ B, B = bL (frsL V) := ⟨_, rfl⟩
          obtain ⟨E, hE⟩ : ∃ E, E = V.flatMap entL := ⟨_, rfl⟩
          obtain ⟨N, hN⟩ : ∃ N, N = (endsF V).map D.int := ⟨_, rfl⟩
          have lB : B.length = q := by rw [hB, bL_len, hq]
          have lE : E.length = V.length * 8 := by rw [hE]; exact es_len V
          have lN : N.length = V.length * 1 := by rw [hN, List.length_map, endsF_len]; omega
          have hfX : frsL (V ++ [X]) = frsL V ++ F := by rw [frsL_snoc, hF]
          have hql : (frsL (V ++ [X])).length = q + F.length := by rw [hfX, List.length_append, hq]
          have heX : endsF (V ++ [X]) = endsF V ++ [((q + F.length : Nat) : Int)] := by rw [endsF_snoc, hql]
          have hq2 : q ≤ 182000 := by omega
          rw [← hq] at v7
          rw [← hB] at g7
          rw [← hE] at g8
          rw [← hN] at g9
          have r2 : V.length + 1 ≤ maxLen := by unfold maxLen; omega
          have a7 := fun (h : Heap) (t : Nat) => ap_none (t := t) (h := h) (k := k7) (cs := B) (news := bL F) (m := F.length) lB lF1 (by omega)
          have a8 := fun (h : Heap) (t : Nat) (news : List D) => appS_none (t := t) (et := 25) (sz := 8) (bytes := 72) (h := h) (m := 1) (news := news) (k := k8) (n := V.length) (cs := E) lE (by omega) (by unfold room; omega) r2
          have a9 := fun (h : Heap) (t : Nat) (news : List D) => appS_none (t := t) (et := 3) (sz := 1) (bytes := 8) (h := h) (m := 1) (news := news) (k := k9) (n := V.length) (cs := N) lN (by omega) (by unfold room; omega) r2
          simp [-src_sl, k4l0, v0', v7, v8, v9, v10, lL, hjz, hj2z, hg, cf, w1, hfr, z8, z1, src_bL, bL_one, bL_len, apK_some, lF0, g7, g8, g9, n78, n87, n79, n97, n89, n98, m7, m8, m9, m7', m8', m9', a7, a8, a9, D.cells, D.one, Value.oneCell', Nat.add_assoc]
          refine ⟨i - 1, by omega, _, _, j + 1, V ++ [X], .slr (h.next + 513) 0 (q + F.length) 1 none, .slr (h.next + 673) 0 (V.length + 1) 8 none, .slr (h.next + 831) 0 (V.length + 1) 1 none, rfl, by omega, by omega, by simp [v0], by simp [v1, bD], by simp [v2], by simp, by simp, by simp, by simp, .inr ⟨h.next + 513, h.next + 673, h.next + 831, by rw [hql], by simp, by simp, by rw [hfX, bL_app, ← hB]; simp [m8', m9'], by simp [entL, strD, hE, m9'], by rw [heX, List.map_append, ← hN]; simp, by simp <;> omega, by simp <;> omega, by simp <;> omega, by simp⟩, by simp; omega, hV1, ?_⟩
          repeat' first | exact hf | apply Heap.Fr.bump | apply Heap.Fr.set
          all_goals (simp <;> omega)
    · have hj2z : ¬ (j : Int) < 20 := by omega
      simp only [enD] at v0
      simp [k4l0, v0, v10, hjz, hj2z]
      exact ⟨i, _, _, j, V, d7, d8, d9, rfl, by omega, by omega, by simp [v0, enD], by simp [v1], by simp [v2], by simp [v7], by simp [v8], by simp [v9], by simp [v10], hl3.keep (by simp) (fun k hk => by simp), hVj, hok, hf.bump _⟩
  · have hjz : ¬ (j : Int) < es.length := by omega
    simp only [enD] at v0
    simp [k4l0, v0, v10, hjz]
    exact ⟨i, _, _, j, V, d7, d8, d9, rfl, by omega, by omega, by simp [v0, enD], by simp [v1], by simp [v2], by simp [v7], by simp [v8], by simp [v9], by simp [v10], hl3.keep (by simp) (fun k hk => by simp), hVj, hok, hf.bump _⟩
end Go.Proofs.YtkbamkdgiglljaaGreat
/- The law of scans: how many frames are there as a whole. -/
namespace Go.Proofs.YtkbamkdgiglljaaGreat
open Go Go.Em
set_option maxRecDepth 100000
theorem endsF_get (V : List Ent) {w : Nat} (h : w < V.length) : ((endsF V).map D.int)[w]? = some (D.int ((frsL (V.take (w + 1))).length : Nat)) := by
  simp [endsF, h]
def LwI (V : List Ent) (k : Nat) (x0 : Env 153) (h0 : Heap) (d9 : D) (i : Nat) (s : St) : Prop := ∃ (x : Env 153) (h : Heap) (w : Nat), s = ⟨x.l, h, []⟩ ∧ w + i = V.length ∧ (∀ q, q < 18 → x.v q = x0.v q) ∧ x.v 18 = D.int w ∧ x.v 19 = D.int (frsL (V.take w)).length ∧ (frsL (V.take w)).length ≤ k ∧ (∀ q, q < h0.next → h.get q = h0.get q) ∧ h0.next ≤ h.next
def LwQ (V : List Ent) (k : Nat) (x0 : Env 153) (h0 : Heap) (x : Ex) (s : St) : Prop := x = .exit 2 ∧ ∃ (x : Env 153) (h : Heap) (w : Nat), s = ⟨x.l, h, []⟩ ∧ w ≤ V.length ∧ (∀ q, q < 18 → x.v q = x0.v q) ∧ x.v 18 = D.int w ∧ x.v 19 = D.int (frsL (V.take w)).length ∧ (frsL (V.take w)).length ≤ k ∧ (w = V.length ∨ ∃ _ : w < V.length, k < (frsL (V.take (w + 1))).length) ∧ (∀ q, q < h0.next → h.get q = h0.get q) ∧ h0.next ≤ h.next
set_option maxHeartbeats 8000000 in
theorem lw_round (V : List Ent) (hV : V.length ≤ 20) (k : Nat) (x0 : Env 153) (h0 : Heap) (d9 : D) (y9 : x0.v 9 = d9) (y13 : x0.v 13 = D.int k) (hd : (V = [] ∧ d9 = .val (.slice none 0 0)) ∨ ∃ k9, d9 = .slr k9 0 V.length 1 none ∧ h0.get k9 = some (.cells 3 ((endsF V).map D.int)) ∧ k9 < h0.next) : ∀ n, 1 ≤ n → ∀ i s, LwI V k x0 h0 d9 i s → Res (k4l1.ev ⟨pg, 153, none⟩ (rc pg n) s) (Rnd (LwI V k x0 h0 d9) (LwQ V k x0 h0) i) := by
  rintro n hn i s ⟨x, h, w, rfl, hw, sm, v18, v19, hle, hg, hnx⟩
  have v9 := sm 9 (by omega)
  have v13 := sm 13 (by omega)
  rw [y9] at v9
  rw [y13] at v13
  have w1 : IntKind.i64.wrap ((w : Int) + 1) = (w : Int) + 1 := wrap_i64 (by omega) (by omega)
  have ne : ∀ {q : Nat}, q < 18 → ∀ t, 18 ≤ t → (t = q) = False := fun hq t ht => by simp; omega
  rcases hd with ⟨rfl, rfl⟩ | ⟨k9, rfl, g9, l9⟩
  · obtain rfl : w = 0 := by simp at hw; exact hw.1
    simp [k4l1, v9, v18]
    exact ⟨rfl, _, _, 0, rfl, by simp, fun q hq => by simp [ne hq, sm q hq], by simp [v18], by simp [v19], by simpa using hle, .inl rfl, fun q hq => by simp [hg q hq], by simp; omega⟩
  · have g9' : h.get k9 = some (.cells 3 ((endsF V).map D.int)) := by rw [hg k9 l9]; exact g9
    obtain ⟨C, hC⟩ : ∃ C, C = (endsF V).map D.int := ⟨_, rfl⟩
    rw [← hC] at g9'
    have lC : C.length = V.length := by rw [hC, List.length_map, endsF_len]
    by_cases hwl : w < V.length
    · have hwz : (w : Int) < V.length := by omega
      have hget := endsF_get V hwl
      rw [← hC] at hget
      have hle1 : w + 1 ≤ V.length := by omega
      obtain ⟨a, ha⟩ : ∃ a, a = (frsL (V.take (w + 1))).length := ⟨_, rfl⟩
      rw [← ha] at hget
      have hget2 : C[w]?.getD D.junk = D.int a := by rw [hget]; rfl
      have hget3 : ∀ h' : w < C.length, C[w]'h' = D.int a := fun h' => by
        have := List.getElem?_eq_getElem h'
        rw [hget] at this
        exact (Option.some.inj this).symm
      by_cases hk : a ≤ k
      · have hkz : (a : Int) ≤ k := by omega
        simp [k4l1, v9, v13, v18, hwz, hwl, g9', lC, hle1, hget2, hget3, hkz, w1]
        exact ⟨i - 1, by omega, _, _, w + 1, rfl, by omega, fun q hq => by simp [ne hq, sm q hq], by simp, by rw [← ha]; simp, by rw [← ha]; exact hk, fun q hq => by simp [hg q hq], by simp; omega⟩
      · have hkz : ¬ (a : Int) ≤ k := by omega
        simp [k4l1, v9, v13, v18, hwz, hwl, g9', lC, hle1, hget2, hget3, hkz]
        exact ⟨rfl, _, _, w, rfl, by omega, fun q hq => by simp [ne hq, sm q hq], by simp [v18], by simp [v19], hle, .inr ⟨hwl, by rw [← ha]; omega⟩, fun q hq => by simp [hg q hq], by simp; omega⟩
    · have hwz : ¬ (w : Int) < V.length := by omega
      simp [k4l1, v9, v18, hwz]
      exact ⟨rfl, _, _, w, rfl, by omega, fun q hq => by simp [ne hq, sm q hq], by simp [v18], by simp [v19], hle, .inl (by omega), fun q hq => by simp [hg q hq], by simp; omega⟩
end Go.Proofs.YtkbamkdgiglljaaGreat
