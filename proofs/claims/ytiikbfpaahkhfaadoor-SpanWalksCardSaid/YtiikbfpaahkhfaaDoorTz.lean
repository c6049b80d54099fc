/- The lowest bit of a word, by package math/bits. -/
import Derived.Test.YtiikbfpaahkhfaaDoorSane
import Derived.Test.YtiikbfpaahkhfaaDoorEmBitV
namespace Go.Proofs.YtiikbfpaahkhfaaDoor
open Go Go.Em
set_option maxRecDepth 100000
theorem bru_len : bruD.length = 64 := by kernel_rfl
theorem tz_tab : ∀ k : Fin 64, (2 ^ k.val * 285870213051353865 % 18446744073709551616) / 288230376151711744 < 64 ∧ (bruD.drop ((2 ^ k.val * 285870213051353865 % 18446744073709551616) / 288230376151711744)).getD 0 .junk = .val (.int .u8 k.val) := by
  intro k
  match k with
  | ⟨k, hk⟩ =>
    simp only
    rcases (show k = 0 ∨ k = 1 ∨ k = 2 ∨ k = 3 ∨ k = 4 ∨ k = 5 ∨ k = 6 ∨ k = 7 ∨ k = 8 ∨ k = 9 ∨ k = 10 ∨ k = 11 ∨ k = 12 ∨ k = 13 ∨ k = 14 ∨ k = 15 ∨ k = 16 ∨ k = 17 ∨ k = 18 ∨ k = 19 ∨ k = 20 ∨ k = 21 ∨ k = 22 ∨ k = 23 ∨ k = 24 ∨ k = 25 ∨ k = 26 ∨ k = 27 ∨ k = 28 ∨ k = 29 ∨ k = 30 ∨ k = 31 ∨ 32 ≤ k by omega) with rfl | rfl | rfl | rfl | rfl | rfl | rfl | rfl | rfl | rfl | rfl | rfl | rfl | rfl | rfl | rfl | rfl | rfl | rfl | rfl | rfl | rfl | rfl | rfl | rfl | rfl | rfl | rfl | rfl | rfl | rfl | rfl | h
    all_goals first
      | exact ⟨by decide, by kernel_rfl⟩
      | rcases (show k = 32 ∨ k = 33 ∨ k = 34 ∨ k = 35 ∨ k = 36 ∨ k = 37 ∨ k = 38 ∨ k = 39 ∨ k = 40 ∨ k = 41 ∨ k = 42 ∨ k = 43 ∨ k = 44 ∨ k = 45 ∨ k = 46 ∨ k = 47 ∨ k = 48 ∨ k = 49 ∨ k = 50 ∨ k = 51 ∨ k = 52 ∨ k = 53 ∨ k = 54 ∨ k = 55 ∨ k = 56 ∨ k = 57 ∨ k = 58 ∨ k = 59 ∨ k = 60 ∨ k = 61 ∨ k = 62 ∨ k = 63 by omega) with rfl | rfl | rfl | rfl | rfl | rfl | rfl | rfl | rfl | rfl | rfl | rfl | rfl | rfl | rfl | rfl | rfl | rfl | rfl | rfl | rfl | rfl | rfl | rfl | rfl | rfl | rfl | rfl | rfl | rfl | rfl | rfl
        all_goals exact ⟨by decide, by kernel_rfl⟩
@[simp] theorem rd_bru (e : List D) : rd pg.gl e (.g 0) = .eref bruD := rfl
theorem tz_run {w k : Nat} (h0 : 0 < w) (hw : w < 2 ^ 64) (h1 : w.testBit k = true) (h2 : ∀ i, i < k → w.testBit i = false) {n : Nat} (hn : 1 ≤ n) : pureCall (rc pg n) 79 [wordD w] = some (.ret (D.int k)) := by
  obtain ⟨m, rfl, e⟩ := body (pg := pg) (f := 79) (args := [wordD w]) (show 0 < n by omega) rfl rfl
  rw [e]
  have hk := bit_lt hw h1
  obtain ⟨k', a1, a2, a3⟩ := low_bit h0
  obtain rfl : k' = k := by
    apply Decidable.byContradiction; intro hne
    rcases Nat.lt_or_gt_of_ne hne with h | h
    · rw [h2 _ h] at a1; cases a1
    · rw [a2 _ h] at h1; cases h1
  have e1 := wrap_neg h0 hw
  have e2 := bin_and64 hw (show 2 ^ 64 - w < 2 ^ 64 by omega)
  rw [and_neg h0 hw a1 a2 a3] at e2
  have e3 : IntKind.u64.wrap (((2 ^ k' : Nat) : Int) * 285870213051353865) = ((2 ^ k' * 285870213051353865 % 18446744073709551616 : Nat) : Int) := by
    rw [← wrap_nat]; rfl
  obtain ⟨t1, t2⟩ := tz_tab ⟨k', hk⟩
  simp only at t1 t2
  obtain ⟨p, hp⟩ : ∃ p, p = 2 ^ k' := ⟨_, rfl⟩
  rw [← hp] at e2 e3 t1 t2
  have e4 := bin_shr64 (p * 285870213051353865 % 18446744073709551616)
  obtain ⟨x, hx⟩ : ∃ x, x = p * 285870213051353865 % 18446744073709551616 := ⟨_, rfl⟩
  rw [← hx] at e3 e4 t1 t2
  obtain ⟨y, hy⟩ : ∃ y, y = x / 288230376151711744 := ⟨_, rfl⟩
  rw [← hy] at e4 t1 t2
  have hne : ((w : Int) == 0) = false := by simp; omega
  have hl := bru_len
  obtain ⟨z, hz⟩ : ∃ z, z = 2 ^ 64 - w := ⟨_, rfl⟩
  rw [← hz] at e1 e2
  rw [Int.zero_sub] at e1
  have hk64 : IntKind.i64.wrap (k' : Int) = k' := wrap_i64 (by omega) (by omega)
  simp at t2
  have t1' : (y : Int) < 64 := by omega
  have hl2 : ¬ 64 - y = 0 := by omega
  have hl3 : 1 ≤ 64 - y := by omega
  have hl4 : y < 64 := t1
  have hy2 : y < bruD.length := by rw [hl]; exact t1
  have t2' : bruD[y] = .val (.int .u8 k') := by rw [List.getElem?_eq_getElem hy2] at t2; simpa using t2
  simp [k79, Env.v_ini, hne, e1, e2, e3, e4, t1', hl, hl3, hl4, t2', hk64]
end Go.Proofs.YtiikbfpaahkhfaaDoor
/- The marks of a set, in order, by the program. -/
namespace Go.Proofs.YtiikbfpaahkhfaaDoor
open Go Go.Em
set_option maxRecDepth 100000
/-- A list of numbers that grows by append. -/
def GL (h : Heap) (d : D) (l : List Int) : Prop := (l = [] ∧ d = .val (.slice none 0 0)) ∨ ∃ k, d = .slr k 0 l.length 1 none ∧ h.get k = some (.cells 3 (l.map D.int)) ∧ k < h.next
theorem GL.keep {h h' : Heap} {d : D} {l : List Int} (g : GL h d l) (hn : h.next ≤ h'.next) (hk : ∀ k, k < h.next → h'.get k = h.get k) : GL h' d l := by
  rcases g with g | ⟨k, a, b, c⟩
  · exact .inl g
  · exact .inr ⟨k, a, by rw [hk k c]; exact b, by omega⟩
theorem GL.frz {h : Heap} {d : D} {l : List Int} (g : GL h d l) : ∃ ks, frz h depth d = some (.sl false (l.map D.int), ks) := by
  rcases g with ⟨rfl, rfl⟩ | ⟨k, rfl, g, _⟩
  · exact ⟨[], rfl⟩
  · refine ⟨k :: [], ?_⟩
    show Go.Em.frz h (23 + 1) _ = _
    simp [g]
    have : ∀ l : List Int, chunk 1 l.length (l.map D.int) = l.map D.int := by
      intro l
      induction l with
      | nil => rfl
      | cons a l ih => simp [chunk, ih]
    have hc : ∀ n, n = l.length → (l.map D.int).take n = l.map D.int := fun n hn => List.take_of_length_le (by simp [hn])
    simp [this, hc]
def listTo (W : List Nat) (i : Nat) : List Int := (List.range i).flatMap fun j => (bitsFrom (W.getD j 0) 0).map fun b => ((64 * j + b : Nat) : Int)
theorem listTo_snoc (W : List Nat) (i : Nat) : listTo W (i + 1) = listTo W i ++ (bitsFrom (W.getD i 0) 0).map fun b => ((64 * i + b : Nat) : Int) := by
  unfold listTo; rw [List.range_succ, List.flatMap_append]; simp
theorem bits_len (w t : Nat) : (bitsFrom w t).length ≤ 64 := by
  unfold bitsFrom
  exact Nat.le_trans (List.length_filter_le _ _) (by simp)
theorem listTo_len (W : List Nat) : ∀ i, (listTo W i).length ≤ 64 * i
  | 0 => by simp [listTo]
  | i + 1 => by
    have h1 := listTo_len W i
    have h2 := bits_len (W.getD i 0) 0
    rw [listTo_snoc, List.length_append, List.length_map]; omega
def LI0 (W : List Nat) (i : Nat) (T : List Int) (k : Nat) (s : St) : Prop := ∃ (x : Env 30) (h : Heap) (w t : Nat) (d : D) (l : List Int), s = ⟨x.l, h, []⟩ ∧ x.v 5 = wordD w ∧ w < 2 ^ 64 ∧ (∀ b, b < t → w.testBit b = false) ∧
  (bitsFrom w t).length = k ∧ l ++ (bitsFrom w t).map (fun b => ((64 * i + b : Nat) : Int)) = T ∧ x.v 3 = d ∧ GL h d l ∧ x.v 4 = D.int i ∧ x.v 9 = .agg (W.map wordD) ∧ x.v 10 = D.int i ∧ h.Fr
set_option maxHeartbeats 1000000 in
theorem list_round0 (W : List Nat) (i : Nat) (hi : i < 33) (T : List Int) (hT : T.length ≤ 2112) : ∀ n, 1 ≤ n → ∀ k s, LI0 W i T k s → Res (k60l0.ev ⟨pg, 30, none⟩ (rc pg n) s) (Rnd (LI0 W i T) (fun x s => x = .exit 2 ∧ LI0 W i T 0 s) k) := by
  rintro n hn k s ⟨x, h, w, t, d, l, rfl, v5, hw, ht, hk, hl, v3, hd, v4, v9, v10, hf⟩
  by_cases h0 : w = 0
  · subst h0
    simp [k60l0, v5]
    refine ⟨_, _, 0, t, d, l, rfl, by simp [v5], by omega, ht, by rw [bits_nil]; rfl, hl, by simp [v3], hd.keep (by simp) (by simp), by simp [v4], by simp [v9], by simp [v10], hf.bump _⟩
  · obtain ⟨q, a1, a2, _⟩ := low_bit (show 0 < w by omega)
    have hq : t ≤ q := by
      apply Decidable.byContradiction; intro hn'; rw [ht q (by omega)] at a1; cases a1
    obtain ⟨b1, b2⟩ := bits_step hw a1 a2 hq
    have hq64 := bit_lt hw a1
    have hne : ((w : Int) != 0) = true := by simp; omega
    have htz := fun h => call_of (h := h) (pg := pg) (f := 79) (args := [wordD w]) rfl (by simp) (@tz_run w q (by omega) hw a1 a2 n hn)
    rw [b1] at hk hl
    have hk' : (bitsFrom (w &&& (w - 1)) (q + 1)).length + 1 = k := by rw [List.length_cons] at hk; exact hk
    have hlen : l.length + (bitsFrom (w &&& (w - 1)) (q + 1)).length + 1 = T.length := by rw [← hl]; simp; omega
    have w1 : IntKind.i64.wrap (64 * (i : Int)) = ((64 * i : Nat) : Int) := by rw [wrap_i64 (by omega) (by omega)]; omega
    have w2 : IntKind.i64.wrap (((64 * i : Nat) : Int) + q) = ((64 * i + q : Nat) : Int) := by rw [wrap_i64 (by omega) (by omega)]; omega
    have w3 : IntKind.u64.wrap ((w : Int) - 1) = ((w - 1 : Nat) : Int) := by rw [wrap_u64 (by omega) (by omega)]; omega
    have w4 := bin_and64 hw (show w - 1 < 2 ^ 64 by omega)
    have hz : ∀ b, b < q + 1 → (w &&& (w - 1)).testBit b = false := fun b hb => by
      obtain ⟨q', c1, c2, c3⟩ := low_bit (show 0 < w by omega)
      obtain rfl : q' = q := by
        apply Decidable.byContradiction; intro hne'
        rcases Nat.lt_or_gt_of_ne hne' with h | h
        · rw [a2 _ h] at c1; cases c1
        · rw [c2 _ h] at a1; cases a1
      rw [and_pred c1 c2 c3]
      have : ¬ q' < b := by omega
      simp [this]
    obtain ⟨u, hu⟩ : ∃ u, u = 64 * i := ⟨_, rfl⟩
    rw [← hu] at w1 w2
    have hfr : ∀ j, h.raw (h.next + j) = none := fun j => hf _ (by omega)
    have fin : ∀ (s : St), LI0 W i T (k - 1) s → ∃ j, k = j + 1 ∧ LI0 W i T j s := fun s hs => ⟨k - 1, by omega, hs⟩
    rcases hd with ⟨rfl, rfl⟩ | ⟨kk, rfl, hg, hkk⟩
    · simp [k60l0, v5, v3, v4, hne, htz, w1, w2, w3, w4, D.cells, D.one, hfr, Nat.add_assoc, zerosD, apK_some, room, maxLen]
      refine fin _ ⟨_, _, w &&& (w - 1), q + 1, .slr (h.next + 57) 0 1 1 none, [((64 * i + q : Nat) : Int)], rfl, by simp, b2, hz, by omega, by simpa using hl, by simp, .inr ⟨h.next + 57, by simp, by simp [← hu], by simp <;> omega⟩, by simp [v4], by simp [v9], by simp [v10], ?_⟩
      repeat' first | exact hf | apply Heap.Fr.bump | apply Heap.Fr.set
      all_goals (simp <;> omega)
    · have ne1 : ∀ j, (h.next + j = kk) = False := fun j => by simp; omega
      have ne2 : ∀ j, (kk = h.next + j) = False := fun j => by simp; omega
      have happ := fun t hh news => appS_none (t := t) (et := 3) (sz := 1) (bytes := 8) (h := hh) (m := 1) (news := news) (k := kk) (n := l.length) (cs := l.map D.int) (by simp) (by omega) (by unfold room; omega) (by unfold maxLen; omega)
      simp [k60l0, v5, v3, v4, hne, htz, w1, w2, w3, w4, D.cells, D.one, hfr, Nat.add_assoc, zerosD, apK_some, hg, ne1, ne2, happ]
      refine fin _ ⟨_, _, w &&& (w - 1), q + 1, .slr (h.next + 57) 0 (l.length + 1) 1 none, l ++ [((64 * i + q : Nat) : Int)], rfl, by simp, b2, hz, by omega, by simpa using hl, by simp, .inr ⟨h.next + 57, by simp, by simp [← hu], by simp <;> omega⟩, by simp [v4], by simp [v9], by simp [v10], ?_⟩
      repeat' first | exact hf | apply Heap.Fr.bump | apply Heap.Fr.set
      all_goals (simp <;> omega)
def LI1 (W : List Nat) (k : Nat) (s : St) : Prop := ∃ (x : Env 30) (h : Heap) (i : Nat) (d : D), s = ⟨x.l, h, []⟩ ∧ i + k = 33 ∧ x.v 3 = d ∧ GL h d (listTo W i) ∧ x.v 9 = .agg (W.map wordD) ∧ x.v 10 = D.int i ∧ h.Fr
set_option maxHeartbeats 1000000 in
theorem list_round1 (W : List Nat) (hW : W.length = 33) (hlt : ∀ w ∈ W, w < 2 ^ 64) : ∀ n, 70 ≤ n → ∀ k s, LI1 W k s → Res (k60l1.ev ⟨pg, 30, none⟩ (rc pg n) s) (Rnd (LI1 W) (fun x s => x = .exit 0 ∧ LI1 W 0 s) k) := by
  rintro n hn k s ⟨x, h, i, d, rfl, hik, v3, hd, v9, v10, hf⟩
  by_cases hi : i < 33
  · have hi' : (i : Int) < 33 := by omega
    have hiW : i < W.length := by omega
    obtain ⟨w, hw⟩ : ∃ w, W[i] = w := ⟨_, rfl⟩
    have hwl : w < 2 ^ 64 := by rw [← hw]; exact hlt _ (List.getElem_mem hiW)
    have hg : W.getD i 0 = w := by rw [List.getD_eq_getElem?_getD, List.getElem?_eq_getElem hiW]; simpa using hw
    have hsn := listTo_snoc W i
    rw [hg] at hsn
    have hT := listTo_len W (i + 1)
    have w1 : IntKind.i64.wrap ((i : Int) + 1) = (i : Int) + 1 := wrap_i64 (by omega) (by omega)
    have i1 : i + 1 ≤ W.length := by omega
    have hbl := bits_len w 0
    simp [k60l1, v9, v10, hi', ev_loop, i1, hw, hiW]
    refine Res.after (P := fun x s => x = .normal ∧ LI0 W i (listTo W (i + 1)) 0 s) (Res.block (lp_rule 1 (LI0 W i (listTo W (i + 1))) _ (list_round0 W i hi (listTo W (i + 1)) (by omega)) (bitsFrom w 0).length n _ (by omega)
      ⟨_, _, w, 0, d, listTo W i, rfl, by simp, hwl, fun b hb => by omega, rfl, hsn.symm, by simp [v3], hd.keep (by simp <;> omega) (by simp), by simp, by simp [v9], by simp [v10], ?_⟩) (by rintro x s ⟨rfl, hh⟩; simp; exact hh)) ?_
    · repeat' first | exact hf | apply Heap.Fr.bump | apply Heap.Fr.set
    · rintro x' s' ⟨rfl, x, h, w', t, d, l, rfl, v5, hw', ht, hk, hl, v3, hd, v4, v9, v10, hf⟩
      have hnil : bitsFrom w' t = [] := List.eq_nil_of_length_eq_zero hk
      rw [hnil, List.map_nil, List.append_nil] at hl
      subst hl
      simp [v10, w1]
      exact ⟨k - 1, by omega, _, _, i + 1, d, rfl, by omega, by simp [v3], hd.keep (by simp) (by simp), by simp [v9], by simp, hf.bump _⟩
  · have hi' : ¬ (i : Int) < 33 := by omega
    simp [k60l1, v10, hi']
    exact ⟨_, _, i, d, rfl, by omega, by simp [v3], hd.keep (by simp) (by simp), by simp [v9], by simp [v10], hf.bump _⟩
theorem word_canon : ∀ l : List Nat, D.canonL (l.map wordD) = true := canonL_map _ fun _ => rfl
theorem list_run (W : List Nat) (hW : W.length = 33) (hlt : ∀ w ∈ W, w < 2 ^ 64) {n : Nat} (hn : 120 ≤ n) : pureCall (rc pg n) 60 [.eref (W.map wordD)] = some (.ret (.sl false ((setL W).map D.int))) := by
  obtain ⟨m, rfl, e⟩ := body (pg := pg) (f := 60) (args := [.eref (W.map wordD)]) (show 0 < n by omega) rfl rfl
  rw [e]
  have hW' : 33 ≤ W.length := by omega
  have htk : (W.map wordD).take 33 = W.map wordD := List.take_of_length_le (by simp; omega)
  simp [k60, Env.v_ini, hW', ev_loop, htk]
  refine Res.endsAfter (lp_rule 70 (LI1 W) _ (list_round1 W hW hlt) 33 m _ (by omega) ⟨_, _, 0, .val (.slice none 0 0), rfl, by omega, by simp, .inl ⟨by simp [listTo], rfl⟩, by simp [htk], by simp, ?_⟩) ?_
  · repeat' first | exact Heap.Fr.empty | apply Heap.Fr.bump | apply Heap.Fr.set
  · rintro x s ⟨rfl, x, h, i, d, rfl, hi, v3, hd, v9, v10, hf⟩
    have hi33 : i = W.length := by omega
    subst hi33
    have hfz : ∃ ks, frz (h.bump 30) depth d = some (.sl false ((listTo W W.length).map D.int), ks) := GL.frz (hd.keep (by simp) (by simp))
    obtain ⟨ks, hfz⟩ := hfz
    simp [-frz, v3]
    simp at hfz
    simp [hfz, setL, listTo]
end Go.Proofs.YtiikbfpaahkhfaaDoor
