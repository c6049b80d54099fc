/- The lowest bit of a word, by package math/bits. -/
import Derived.Test.YtlfknfknlcgfcaaGreatDoorPg
import Derived.Test.YtlfknfknlcgfcaaGreatDoorEmBits
import Derived.Test.YtlfknfknlcgfcaaGreatDoorClaim
import Derived.Test.YtlfknfknlcgfcaaGreatDoorSane
namespace Go.Proofs.YtlfknfknlcgfcaaGreatDoor
open Go Go.Em
set_option maxRecDepth 100000
theorem bru_len : bruD.length = 64 := by kernel_rfl
theorem tz_tab : ∀ k : Fin 64, (2 ^ k.val * 285870213051353865 % 18446744073709551616) / 288230376151711744 < 64 ∧ (bruD.drop ((2 ^ k.val * 285870213051353865 % 18446744073709551616) / 288230376151711744)).getD 0 .junk = .val (.int .u8 k.val) := by
  intro k
  match k with
  | ⟨k, hk⟩ =>
    simp only
    rcases (show k = 0 ∨ k = 1 ∨ k = 2 ∨ k = 3 ∨ k = 4 ∨ k = 5 ∨ k = 6 ∨ k = 7 ∨ k = 8 ∨ k = 9 ∨ k = 10 ∨ k = 11 ∨ k = 12 ∨ k = 13 ∨ k = 14 ∨ k = 15 ∨ k = 16 ∨ k = 17 ∨ k = 18 ∨ k = 19 ∨ k = 20 ∨ k = 21 ∨ k = 22 ∨ k = 23 ∨ k = 24 ∨ k = 25 ∨ k = 26 ∨ k = 27 ∨ k = 28 ∨ k = 29 ∨ k = 30 ∨ k = 31 ∨ 32 ≤ k by omega) with rfl | rfl | rfl | rfl | rfl | rfl | rfl | rfl | rfl | rfl | rfl | rfl | rfl | rfl | rfl | rfl | rfl | rfl | rfl | rfl | rfl | rfl | rfl | rfl | rfl | rfl | rfl | rfl | rfl | rfl | rfl | rfl | h
    all_goals first
      | exact ⟨by decide, by kernel_rfl⟩
      | rcases (show k = 32 ∨ k = 33 ∨ k = 34 ∨ k = 35 ∨ k = 36 ∨ k = 37 ∨ k = 38 ∨ k = 39 ∨ k = 40 ∨ k = 41 ∨ k = 42 ∨ k = 43 ∨ k = 44 ∨ k = 45 ∨ k = 46 ∨ k = 47 ∨ k = 48 ∨ k = 49 ∨ k = 50 ∨ k = 51 ∨ k = 52 ∨ k = 53 ∨ k = 54 ∨ k = 55 ∨ k = 56 ∨ k = 57 ∨ k = 58 ∨ k = 59 ∨ k = 60 ∨ k = 61 ∨ k = 62 ∨ k = 63 by omega) with rfl | rfl | rfl | rfl | rfl | rfl | rfl | rfl | rfl | rfl | rfl | rfl | rfl | rfl | rfl | rfl | rfl | rfl | rfl | rfl | rfl | rfl | rfl | rfl | rfl | rfl | rfl | rfl | rfl | rfl | rfl | rfl
        all_goals exact ⟨by decide, by kernel_rfl⟩
@[simp] theorem rd_bru (e : List D) : rd pg.gl e (.g 1) = .eref bruD := rfl
theorem tz_run {w k : Nat} (h0 : 0 < w) (hw : w < 2 ^ 64) (h1 : w.testBit k = true) (h2 : ∀ i, i < k → w.testBit i = false) {n : Nat} (hn : 1 ≤ n) : pureCall (rc pg n) 193 [wordD w] = some (.ret (D.int k)) := by
  obtain ⟨m, rfl, e⟩ := body (pg := pg) (f := 193) (args := [wordD w]) (show 0 < n by omega) rfl rfl
  rw [e]
  have hk := bit_lt hw h1
  obtain ⟨k', a1, a2, a3⟩ := low_bit h0
  obtain rfl : k' = k := by
    apply Decidable.byContradiction; intro hne
    rcases Nat.lt_or_gt_of_ne hne with h | h
    · rw [h2 _ h] at a1; cases a1
    · rw [a2 _ h] at h1; cases h1
  have e1 := wrap_neg h0 hw
  have e2 := bin_and64 hw (show 2 ^ 64 - w < 2 ^ 64 by omega)
  rw [and_neg h0 hw a1 a2 a3] at e2
  have e3 : IntKind.u64.wrap (((2 ^ k' : Nat) : Int) * 285870213051353865) = ((2 ^ k' * 285870213051353865 % 18446744073709551616 : Nat) : Int) := by
    rw [← wrap_nat]; rfl
  obtain ⟨t1, t2⟩ := tz_tab ⟨k', hk⟩
  simp only at t1 t2
  obtain ⟨p, hp⟩ : ∃ p, p = 2 ^ k' := ⟨_, rfl⟩
  rw [← hp] at e2 e3 t1 t2
  have e4 := bin_shr64 (p * 285870213051353865 % 18446744073709551616)
  obtain ⟨x, hx⟩ : ∃ x, x = p * 285870213051353865 % 18446744073709551616 := ⟨_, rfl⟩
  rw [← hx] at e3 e4 t1 t2
  obtain ⟨y, hy⟩ : ∃ y, y = x / 288230376151711744 := ⟨_, rfl⟩
  rw [← hy] at e4 t1 t2
  have hne : ((w : Int) == 0) = false := by simp; omega
  have hl := bru_len
  obtain ⟨z, hz⟩ : ∃ z, z = 2 ^ 64 - w := ⟨_, rfl⟩
  rw [← hz] at e1 e2
  rw [Int.zero_sub] at e1
  have hk64 : IntKind.i64.wrap (k' : Int) = k' := wrap_i64 (by omega) (by omega)
  simp at t2
  have t1' : (y : Int) < 64 := by omega
  have hl2 : ¬ 64 - y = 0 := by omega
  have hl3 : 1 ≤ 64 - y := by omega
  have hl4 : y < 64 := t1
  have hy2 : y < bruD.length := by rw [hl]; exact t1
  have t2' : bruD[y] = .val (.int .u8 k') := by rw [List.getElem?_eq_getElem hy2] at t2; simpa using t2
  simp [k193, Env.v_ini, hne, e1, e2, e3, e4, t1', hl, hl3, hl4, t2', hk64]
end Go.Proofs.YtlfknfknlcgfcaaGreatDoor
/- The marks of a set, in order, by the program. -/
namespace Go.Proofs.YtlfknfknlcgfcaaGreatDoor
open Go Go.Em
set_option maxRecDepth 100000
def GL (h : Heap) (d : D) (l : List Int) : Prop := (l = [] ∧ d = .val (.slice none 0 0)) ∨ ∃ k, d = .slr k 0 l.length 1 none ∧ h.get k = some (.cells 3 (l.map D.int)) ∧ k < h.next
theorem GL.keep {h h' : Heap} {d : D} {l : List Int} (g : GL h d l) (hn : h.next ≤ h'.next) (hk : ∀ k, k < h.next → h'.get k = h.get k) : GL h' d l := by
  rcases g with g | ⟨k, a, b, c⟩
  · exact .inl g
  · exact .inr ⟨k, a, by rw [hk k c]; exact b, by omega⟩
theorem GL.frz {h : Heap} {d : D} {l : List Int} (g : GL h d l) : ∃ ks, frz h depth d = some (.sl false (l.map D.int), ks) := by
  rcases g with ⟨rfl, rfl⟩ | ⟨k, rfl, g, _⟩
  · exact ⟨[], rfl⟩
  · refine ⟨k :: [], ?_⟩
    show Go.Em.frz h (23 + 1) _ = _
    simp [g]
    have : ∀ l : List Int, chunk 1 l.length (l.map D.int) = l.map D.int := by
      intro l
      induction l with
      | nil => rfl
      | cons a l ih => simp [chunk, ih]
    have hc : ∀ n, n = l.length → (l.map D.int).take n = l.map D.int := fun n hn => List.take_of_length_le (by simp [hn])
    simp [this, hc]
def listTo (W : List Nat) (i : Nat) : List Int := (List.range i).flatMap fun j => (bitsFrom (W.getD j 0) 0).map fun b => ((64 * j + b : Nat) : Int)
theorem listTo_snoc (W : List Nat) (i : Nat) : listTo W (i + 1) = listTo W i ++ (bitsFrom (W.getD i 0) 0).map fun b => ((64 * i + b : Nat) : Int) := by
  unfold listTo; rw [List.range_succ, List.flatMap_append]; simp
theorem bits_len (w t : Nat) : (bitsFrom w t).length ≤ 64 := by
  unfold bitsFrom
  exact Nat.le_trans (List.length_filter_le _ _) (by simp)
theorem listTo_len (W : List Nat) : ∀ i, (listTo W i).length ≤ 64 * i
  | 0 => by simp [listTo]
  | i + 1 => by
    have h1 := listTo_len W i
    have h2 := bits_len (W.getD i 0) 0
    rw [listTo_snoc, List.length_append, List.length_map]; omega
def LI0 (W : List Nat) (i : Nat) (T : List Int) (k : Nat) (s : St) : Prop := ∃ (x : Env 30) (h : Heap) (w t : Nat) (d : D) (l : List Int), s = ⟨x.l, h, []⟩ ∧ x.v 5 = wordD w ∧ w < 2 ^ 64 ∧ (∀ b, b < t → w.testBit b = false) ∧
  (bitsFrom w t).length = k ∧ l ++ (bitsFrom w t).map (fun b => ((64 * i + b : Nat) : Int)) = T ∧ x.v 3 = d ∧ GL h d l ∧ x.v 4 = D.int i ∧ x.v 9 = .agg (W.map wordD) ∧ x.v 10 = D.int i ∧ h.Fr
set_option maxHeartbeats 1000000 in
theorem list_round0 (W : List Nat) (i : Nat) (hi : i < 33) (T : List Int) (hT : T.length ≤ 2112) : ∀ n, 1 ≤ n → ∀ k s, LI0 W i T k s → Res (k159l0.ev ⟨pg, 30, none⟩ (rc pg n) s) (Rnd (LI0 W i T) (fun x s => x = .exit 2 ∧ LI0 W i T 0 s) k) := by
  rintro n hn k s ⟨x, h, w, t, d, l, rfl, v5, hw, ht, hk, hl, v3, hd, v4, v9, v10, hf⟩
  by_cases h0 : w = 0
  · subst h0
    simp [k159l0, v5]
    refine ⟨_, _, 0, t, d, l, rfl, by simp [v5], by omega, ht, by rw [bits_nil]; rfl, hl, by simp [v3], hd.keep (by simp) (by simp), by simp [v4], by simp [v9], by simp [v10], hf.bump _⟩
  · obtain ⟨q, a1, a2, _⟩ := low_bit (show 0 < w by omega)
    have hq : t ≤ q := by
      apply Decidable.byContradiction; intro hn'; rw [ht q (by omega)] at a1; cases a1
    obtain ⟨b1, b2⟩ := bits_step hw a1 a2 hq
    have hq64 := bit_lt hw a1
    have hne : ((w : Int) != 0) = true := by simp; omega
    have htz := fun h => call_of (h := h) (pg := pg) (f := 193) (args := [wordD w]) rfl (by simp) (@tz_run w q (by omega) hw a1 a2 n hn)
    rw [b1] at hk hl
    have hk' : (bitsFrom (w &&& (w - 1)) (q + 1)).length + 1 = k := by rw [List.length_cons] at hk; exact hk
    have hlen : l.length + (bitsFrom (w &&& (w - 1)) (q + 1)).length + 1 = T.length := by rw [← hl]; simp; omega
    have w1 : IntKind.i64.wrap (64 * (i : Int)) = ((64 * i : Nat) : Int) := by rw [wrap_i64 (by omega) (by omega)]; omega
    have w2 : IntKind.i64.wrap (((64 * i : Nat) : Int) + q) = ((64 * i + q : Nat) : Int) := by rw [wrap_i64 (by omega) (by omega)]; omega
    have w3 : IntKind.u64.wrap ((w : Int) - 1) = ((w - 1 : Nat) : Int) := by rw [wrap_u64 (by omega) (by omega)]; omega
    have w4 := bin_and64 hw (show w - 1 < 2 ^ 64 by omega)
    have hz : ∀ b, b < q + 1 → (w &&& (w - 1)).testBit b = false := fun b hb => by
      obtain ⟨q', c1, c2, c3⟩ := low_bit (show 0 < w by omega)
      obtain rfl : q' = q := by
        apply Decidable.byContradiction; intro hne'
        rcases Nat.lt_or_gt_of_ne hne' with h | h
        · rw [a2 _ h] at c1; cases c1
        · rw [c2 _ h] at a1; cases a1
      rw [and_pred c1 c2 c3]
      have : ¬ q' < b := by omega
      simp [this]
    obtain ⟨u, hu⟩ : ∃ u, u = 64 * i := ⟨_, rfl⟩
    rw [← hu] at w1 w2
    have hfr : ∀ j, h.raw (h.next + j) = none := fun j => hf _ (by omega)
    have fin : ∀ (s : St), LI0 W i T (k - 1) s → ∃ j, k = j + 1 ∧ LI0 W i T j s := fun s hs => ⟨k - 1, by omega, hs⟩
    rcases hd with ⟨rfl, rfl⟩ | ⟨kk, rfl, hg, hkk⟩
    · simp [k159l0, v5, v3, v4, hne, htz, w1, w2, w3, w4, D.cells, D.one, hfr, Nat.add_assoc, zerosD, apK_some, room, maxLen]
      refine fin _ ⟨_, _, w &&& (w - 1), q + 1, .slr (h.next + 57) 0 1 1 none, [((64 * i + q : Nat) : Int)], rfl, by simp, b2, hz, by omega, by simpa using hl, by simp, .inr ⟨h.next + 57, by simp, by simp [← hu], by simp <;> omega⟩, by simp [v4], by simp [v9], by simp [v10], ?_⟩
      repeat' first | exact hf | apply Heap.Fr.bump | apply Heap.Fr.set
      all_goals (simp <;> omega)
    · have ne1 : ∀ j, (h.next + j = kk) = False := fun j => by simp; omega
      have ne2 : ∀ j, (kk = h.next + j) = False := fun j => by simp; omega
      have happ := fun t hh news => appS_none (t := t) (et := 3) (sz := 1) (bytes := 8) (h := hh) (m := 1) (news := news) (k := kk) (n := l.length) (cs := l.map D.int) (by simp) (by omega) (by unfold room; omega) (by unfold maxLen; omega)
      simp [k159l0, v5, v3, v4, hne, htz, w1, w2, w3, w4, D.cells, D.one, hfr, Nat.add_assoc, zerosD, apK_some, hg, ne1, ne2, happ]
      refine fin _ ⟨_, _, w &&& (w - 1), q + 1, .slr (h.next + 57) 0 (l.length + 1) 1 none, l ++ [((64 * i + q : Nat) : Int)], rfl, by simp, b2, hz, by omega, by simpa using hl, by simp, .inr ⟨h.next + 57, by simp, by simp [← hu], by simp <;> omega⟩, by simp [v4], by simp [v9], by simp [v10], ?_⟩
      repeat' first | exact hf | apply Heap.Fr.bump | apply Heap.Fr.set
      all_goals (simp <;> omega)
def LI1 (W : List Nat) (k : Nat) (s : St) : Prop := ∃ (x : Env 30) (h : Heap) (i : Nat) (d : D), s = ⟨x.l, h, []⟩ ∧ i + k = 33 ∧ x.v 3 = d ∧ GL h d (listTo W i) ∧ x.v 9 = .agg (W.map wordD) ∧ x.v 10 = D.int i ∧ h.Fr
set_option maxHeartbeats 1000000 in
theorem list_round1 (W : List Nat) (hW : W.length = 33) (hlt : ∀ w ∈ W, w < 2 ^ 64) : ∀ n, 70 ≤ n → ∀ k s, LI1 W k s → Res (k159l1.ev ⟨pg, 30, none⟩ (rc pg n) s) (Rnd (LI1 W) (fun x s => x = .exit 0 ∧ LI1 W 0 s) k) := by
  rintro n hn k s ⟨x, h, i, d, rfl, hik, v3, hd, v9, v10, hf⟩
  by_cases hi : i < 33
  · have hi' : (i : Int) < 33 := by omega
    have hiW : i < W.length := by omega
    obtain ⟨w, hw⟩ : ∃ w, W[i] = w := ⟨_, rfl⟩
    have hwl : w < 2 ^ 64 := by rw [← hw]; exact hlt _ (List.getElem_mem hiW)
    have hg : W.getD i 0 = w := by rw [List.getD_eq_getElem?_getD, List.getElem?_eq_getElem hiW]; simpa using hw
    have hsn := listTo_snoc W i
    rw [hg] at hsn
    have hT := listTo_len W (i + 1)
    have w1 : IntKind.i64.wrap ((i : Int) + 1) = (i : Int) + 1 := wrap_i64 (by omega) (by omega)
    have i1 : i + 1 ≤ W.length := by omega
    have hbl := bits_len w 0
    simp [k159l1, v9, v10, hi', ev_loop, i1, hw, hiW]
    refine Res.after (P := fun x s => x = .normal ∧ LI0 W i (listTo W (i + 1)) 0 s) (Res.block (lp_rule 1 (LI0 W i (listTo W (i + 1))) _ (list_round0 W i hi (listTo W (i + 1)) (by omega)) (bitsFrom w 0).length n _ (by omega)
      ⟨_, _, w, 0, d, listTo W i, rfl, by simp, hwl, fun b hb => by omega, rfl, hsn.symm, by simp [v3], hd.keep (by simp <;> omega) (by simp), by simp, by simp [v9], by simp [v10], ?_⟩) (by rintro x s ⟨rfl, hh⟩; simp; exact hh)) ?_
    · repeat' first | exact hf | apply Heap.Fr.bump | apply Heap.Fr.set
    · rintro x' s' ⟨rfl, x, h, w', t, d, l, rfl, v5, hw', ht, hk, hl, v3, hd, v4, v9, v10, hf⟩
      have hnil : bitsFrom w' t = [] := List.eq_nil_of_length_eq_zero hk
      rw [hnil, List.map_nil, List.append_nil] at hl
      subst hl
      simp [v10, w1]
      exact ⟨k - 1, by omega, _, _, i + 1, d, rfl, by omega, by simp [v3], hd.keep (by simp) (by simp), by simp [v9], by simp, hf.bump _⟩
  · have hi' : ¬ (i : Int) < 33 := by omega
    simp [k159l1, v10, hi']
    exact ⟨_, _, i, d, rfl, by omega, by simp [v3], hd.keep (by simp) (by simp), by simp [v9], by simp [v10], hf.bump _⟩
theorem word_canon : ∀ l : List Nat, D.canonL (l.map wordD) = true := canonL_map _ fun _ => rfl
theorem list_run (W : List Nat) (hW : W.length = 33) (hlt : ∀ w ∈ W, w < 2 ^ 64) {n : Nat} (hn : 120 ≤ n) : pureCall (rc pg n) 159 [.eref (W.map wordD)] = some (.ret (.sl false ((setL W).map D.int))) := by
  obtain ⟨m, rfl, e⟩ := body (pg := pg) (f := 159) (args := [.eref (W.map wordD)]) (show 0 < n by omega) rfl rfl
  rw [e]
  have hW' : 33 ≤ W.length := by omega
  have htk : (W.map wordD).take 33 = W.map wordD := List.take_of_length_le (by simp; omega)
  simp [k159, Env.v_ini, hW', ev_loop, htk]
  refine Res.endsAfter (lp_rule 70 (LI1 W) _ (list_round1 W hW hlt) 33 m _ (by omega) ⟨_, _, 0, .val (.slice none 0 0), rfl, by omega, by simp, .inl ⟨by simp [listTo], rfl⟩, by simp, by simp, ?_⟩) ?_
  · repeat' first | exact Heap.Fr.empty | apply Heap.Fr.bump | apply Heap.Fr.set
  · rintro x s ⟨rfl, x, h, i, d, rfl, hi, v3, hd, v9, v10, hf⟩
    have hi33 : i = W.length := by omega
    subst hi33
    have hfz : ∃ ks, frz (h.bump 30) depth d = some (.sl false ((listTo W W.length).map D.int), ks) := GL.frz (hd.keep (by simp) (by simp))
    obtain ⟨ks, hfz⟩ := hfz
    simp [v3]
    simp at hfz
    simp [hfz, setL, listTo]
end Go.Proofs.YtlfknfknlcgfcaaGreatDoor
/- The marks of claims, by the program. -/
namespace Go.Proofs.YtlfknfknlcgfcaaGreatDoor
open Go Go.Em
set_option maxRecDepth 100000
theorem call_sh {pg : Pg} {R : Rc} {f : FuncId} {args : List D} {h h' : Heap} {o : Out} (hs : pg.sh f = true) (x : R.fn f args h = some (o, h')) : call pg R f args h = some (o, h') := by
  simp [call, hs, x]
theorem call_frzk {pg : Pg} {R : Rc} {f : FuncId} {a : D} {args bs : List D} {ks : List Nat} {h : Heap} {o : Out} (hs : pg.sh f = false) (ha : each (Go.Em.frz h depth) (a :: args) = some (bs, ks)) (x : pureCall R f bs = some o) : ∃ h', call pg R f (a :: args) h = some (o, h') := by
  have e : call pg R f (a :: args) h = some (o, if (ks.isEmpty || o.d.flat) = true then h else h.cool ks) := by
    simp only [call, hs, ha, pureA, pureS, x, orS, Option.map_some, Bool.false_eq_true, if_false]
  exact ⟨_, e⟩
set_option maxHeartbeats 1000000 in
theorem add_sh (W : List Nat) (hW : W.length = 33) (hlt : ∀ w ∈ W, w < 2 ^ 64) (a : Nat) (ha : a ≤ 2048) {ty k : Nat} {h : Heap} (hg : h.get k = some (.cells ty (W.map wordD))) {n : Nat} (hn : 1 ≤ n) :
    (rc pg n).fn 192 [.ptr k 0, D.int a] h = some (.ret (.tup []), (h.bump 18).set k (some (.cells ty ((addF W a).map wordD)))) := by
  obtain ⟨m, rfl, e⟩ := fn_body (pg := pg) (f := 192) (args := [.ptr k 0, D.int a]) (h := h) (show 0 < n by omega) rfl rfl
  rw [e]
  obtain ⟨q, hq⟩ : ∃ q, q = a / 64 := ⟨_, rfl⟩
  obtain ⟨r, hr⟩ : ∃ r, r = a % 64 := ⟨_, rfl⟩
  have q1 : IntKind.i64.wrap ((a : Int) / 64) = (q : Int) := by rw [wrap_i64 (by omega) (by omega)]; omega
  have r1 : (a : Int).tmod 64 = (r : Int) := by rw [Int.tmod_eq_emod_of_nonneg (by omega)]; omega
  have hqW : q < W.length := by omega
  have hq33 : (q : Int) < 33 := by omega
  obtain ⟨w, hw⟩ : ∃ w, W[q] = w := ⟨_, rfl⟩
  have hwl : w < 2 ^ 64 := by rw [← hw]; exact hlt _ (List.getElem_mem hqW)
  have s1 := bin_shl64 (show r < 64 by omega)
  have hp : 2 ^ r < 2 ^ 64 := Nat.pow_lt_pow_right (by omega) (by omega)
  have s2 := bin_or64 hwl hp
  have hadd : addF W a = W.set q (w ||| 2 ^ r) := by
    unfold addF; rw [← hq, ← hr, List.getD_eq_getElem?_getD, List.getElem?_eq_getElem hqW, hw]; rfl
  have hset : (W.map wordD).take q ++ (wordD (w ||| 2 ^ r) :: (W.map wordD).drop (q + 1)) = (addF W a).map wordD := by
    rw [hadd, List.map_set, List.set_eq_take_append_cons_drop, if_pos (by simpa using hqW)]
  obtain ⟨p, hpp⟩ : ∃ p, p = 2 ^ r := ⟨_, rfl⟩
  rw [← hpp] at s1 s2 hset
  have i1 : q + 1 ≤ W.length := by omega
  have i2 : (W.map wordD)[q]'(by simpa using hqW) = wordD w := by simp [hw]
  simp [k192, Env.v_ini, bin_quo, bin_rem, q1, r1, hq33, hg, i1, hw, hqW, s1, s2, hset, D.cells, D.one]
def MI (h0 : Heap) (L l : List Clm) (b k : Nat) (s : St) : Prop := ∃ (x : Env 21) (h : Heap) (i : Nat) (W : List Nat), s = ⟨x.l, h, []⟩ ∧ i + k = l.length ∧ x.v 6 = clsD l ∧ x.v 7 = D.int l.length ∧ x.v 8 = D.int i ∧ x.v 0 = .ptr b 0 ∧ h.get b = some (.cells 196 (W.map wordD)) ∧ b < h0.next ∧ HasSet W (L ++ l.take i) ∧ h.Fr ∧ h0.next ≤ h.next ∧ ∀ q, q < h0.next → q ≠ b → h.raw q = h0.raw q
set_option maxHeartbeats 2000000 in
theorem marks_round (h0 : Heap) (L l : List Clm) (b : Nat) (hl : ∀ c ∈ l, (0 ≤ c.a ∧ c.a ≤ 2048) ∧ (0 ≤ c.b ∧ c.b ≤ 2048)) (hlen : l.length ≤ 9223372036854775806) : ∀ n, 1 ≤ n → ∀ k s, MI h0 L l b k s → Res (k158l0.ev ⟨pg, 21, none⟩ (rc pg n) s) (Rnd (MI h0 L l b) (fun x s => x = .exit 0 ∧ MI h0 L l b 0 s) k) := by
  rintro n hn k s ⟨x, h, i, W, rfl, hik, v6, v7, v8, v0, hg, hb, hS, hf, u1, u2⟩
  simp only [clsD] at v6
  by_cases hi : i < l.length
  · obtain ⟨c, hc⟩ : ∃ c, l[i] = c := ⟨_, rfl⟩
    obtain ⟨⟨a1, a2⟩, b1, b2⟩ := hl c (by rw [← hc]; exact List.getElem_mem hi)
    obtain ⟨A, hA⟩ : ∃ A : Nat, c.a = A := ⟨c.a.toNat, by omega⟩
    obtain ⟨B, hB⟩ : ∃ B : Nat, c.b = B := ⟨c.b.toNat, by omega⟩
    have htk : L ++ l.take (i + 1) = (L ++ l.take i) ++ [c] := by rw [List.take_add_one, List.getElem?_eq_getElem hi, hc]; simp
    have hS1 : HasSet (addF (addF W A) B) (L ++ l.take (i + 1)) := by rw [htk]; exact hS.add hA hB (by omega) (by omega)
    have w1 : IntKind.i64.wrap ((i : Int) + 1) = (i : Int) + 1 := wrap_i64 (by omega) (by omega)
    have hfr : ∀ j, h.raw (h.next + j) = none := fun j => hf _ (by omega)
    have ne1 : ∀ j, (b = h.next + j) = False := fun j => by simp; omega
    have ne2 : ∀ j, (h.next + j = b) = False := fun j => by simp; omega
    have s59 : pg.sh 192 = true := rfl
    have hlt1 := addF_lt hS.2.1 A
    have hl1 : (addF W A).length = 33 := by rw [addF_len, hS.1]
    have c1 := fun (hh : Heap) (hgg : hh.get b = some (.cells 196 (W.map wordD))) => call_sh s59 (add_sh W hS.1 hS.2.1 A (by omega) hgg hn)
    have c2 := fun (hh : Heap) (hgg : hh.get b = some (.cells 196 ((addF W A).map wordD))) => call_sh s59 (add_sh (addF W A) hl1 hlt1 B (by omega) hgg hn)
    simp [k158l0, v6, v7, v8, v0, hi, hc, clD, clC, hA, hB, D.cells, D.one, hfr, Nat.add_assoc, ne1, ne2, w1, c1, c2, hg]
    refine ⟨k - 1, by omega, _, _, i + 1, addF (addF W A) B, rfl, by omega, by simp [v6, clsD], by simp [v7], by simp, by simp [v0], by simp, hb, hS1, ?_, by simp; omega, fun q hq hqb => ?_⟩
    · repeat' first | exact hf | apply Heap.Fr.bump | apply Heap.Fr.set
      all_goals (simp <;> omega)
    · have := u2 q hq hqb
      simp [hqb, show q ≠ h.next + 26 by omega, show q ≠ h.next + 5 by omega, this]
  · simp [k158l0, v7, v8, hi]
    have hil : i = l.length := by omega
    exact ⟨_, _, i, W, rfl, by omega, by simp [v6, clsD], by simp [v7], by simp [v8], by simp [v0], by simp [hg], hb, hS, hf.bump _, by simp; omega, fun q hq hqb => by simpa using u2 q hq hqb⟩
theorem addc_sh (L l : List Clm) {b : Nat} {h : Heap} {W : List Nat} (hg : h.get b = some (.cells 196 (W.map wordD))) (hb : b < h.next) (hS : HasSet W L) (hf : h.Fr) (hl : ∀ c ∈ l, (0 ≤ c.a ∧ c.a ≤ 2048) ∧ (0 ≤ c.b ∧ c.b ≤ 2048)) (hlen : l.length ≤ 9223372036854775806) {n : Nat} (hn : l.length + 10 ≤ n) :
    ∃ h' W', (rc pg n).fn 158 [.ptr b 0, clsD l] h = some (.ret (.tup []), h') ∧ h'.get b = some (.cells 196 (W'.map wordD)) ∧ HasSet W' (L ++ l) ∧ h'.Fr ∧ h.next ≤ h'.next ∧ ∀ q, q < h.next → q ≠ b → h'.raw q = h.raw q := by
  obtain ⟨m, rfl, e⟩ := fn_body (pg := pg) (f := 158) (args := [.ptr b 0, clsD l]) (h := h) (show 0 < n by omega) rfl rfl
  rw [e]
  simp [k158, Env.v_ini, clsD, ev_loop]
  obtain ⟨xx, ss, ho, rfl, x, h', i, W', rfl, hi, v6, v7, v8, v0, hg', hb', hS', hf', u1, u2⟩ := lp_rule 1 (MI h L l b) _ (marks_round h L l b hl hlen) l.length m ⟨((((Env.ini 21 [.ptr b 0, clsD l]).upd 6 (clsD l)).upd 7 (D.int l.length)).upd 8 (D.int 0)).l, h.bump 21, []⟩ (by omega) ⟨_, _, 0, W, rfl, by omega, by simp, by simp, by simp, by simp [Env.v_ini], by simp [hg], hb, by simpa using hS, hf.bump _, by simp, fun q _ _ => by simp⟩
  have hil : i = l.length := by omega
  subst hil
  rw [List.take_length] at hS'
  simp only [clsD] at ho
  rw [ho]
  exact ⟨h', by simp, W', hg', hS', hf', u1, u2⟩
theorem marks_run (l : List Clm) (hl : ∀ c ∈ l, (0 ≤ c.a ∧ c.a ≤ 2048) ∧ (0 ≤ c.b ∧ c.b ≤ 2048)) (hlen : l.length ≤ 9223372036854775806) {n : Nat} (hn : l.length + 130 ≤ n) : pureCall (rc pg n) 174 [clsD l] = some (.ret (.sl false ((marksF l).map D.int))) := by
  obtain ⟨m, rfl, e⟩ := body (pg := pg) (f := 174) (args := [clsD l]) (show 0 < n by omega) rfl rfl
  rw [e]
  have s93 : pg.sh 158 = true := rfl
  have s94 : pg.sh 159 = false := rfl
  obtain ⟨H, hH⟩ : ∃ H, H = ((((Heap.empty.bump 7).bump 7).set 10 (some (.cells 196 ((List.replicate 33 0).map wordD)))).bump 7) := ⟨_, rfl⟩
  have hHf : H.Fr := by
    rw [hH]
    repeat' first | exact Heap.Fr.empty | apply Heap.Fr.bump | apply Heap.Fr.set
    all_goals simp
  obtain ⟨h', W, e1, hg, hS, hf', _, _⟩ := addc_sh [] l (b := 10) (h := H) (W := List.replicate 33 0) (by rw [hH]; simp) (by rw [hH]; simp) HasSet.nil hHf hl hlen (n := m) (by omega)
  rw [List.nil_append] at hS
  have c93 := call_sh (pg := pg) s93 e1
  simp only [clsD] at c93
  simp [List.replicate, wordD] at hH
  have hr := @list_run W hS.1 hS.2.1 m (by omega)
  rw [set_marks hS hl] at hr
  have hz : each (frz (h'.bump 7) depth) [.ptr 10 0] = some ([.eref (W.map wordD)], [10]) := by
    have := fun h => each_canon h 22 _ (word_canon W)
    simp [hg, this]
  obtain ⟨h2, hcall⟩ := call_frzk (h := h'.bump 7) s94 hz hr
  have hcan := fun h n => each_canon h n _ (canonL_map D.int (fun _ => rfl) (marksF l))
  simp [k174, Env.v_ini, clsD, ← hH, c93, hcall, hcan]
end Go.Proofs.YtlfknfknlcgfcaaGreatDoor
/- The marks of claims, by the document's own function. -/
namespace Go.Proofs.YtlfknfknlcgfcaaGreatDoor
open Go Go.Em
set_option maxRecDepth 100000
def intsD (l : List Int) : D := .sl false (l.map D.int)
theorem ints_canonL (l : List Int) : D.canonL (l.map D.int) = true := canonL_map D.int (fun _ => rfl) l
def WI (l : List Int) (n : Int) (k : Nat) (s : St) : Prop := ∃ (x : Env 49) (h : Heap), s = ⟨x.l, h, []⟩ ∧ k ≤ l.length ∧ x.v 0 = intsD l ∧ x.v 1 = D.int n ∧ x.v 5 = D.int k ∧ (∀ j (hj : j < l.length), k ≤ j → n ≤ l[j]) ∧ h.Fr
def WQ (l : List Int) (n : Int) (x : Ex) (s : St) : Prop := x = .exit 0 ∧ ∃ k, WI l n k s ∧ ∀ (h0 : 0 < k) (hk : k ≤ l.length), l[k - 1]'(by omega) < n
set_option maxHeartbeats 1000000 in
theorem with_round (l : List Int) (n : Int) (hl : l.length ≤ 4000) : ∀ m, 0 ≤ m → ∀ k s, WI l n k s → Res (k84l0.ev ⟨pg, 49, none⟩ (rc pg m) s) (Rnd (WI l n) (WQ l n) k) := by
  rintro m hm k s ⟨x, h, rfl, hk, v0, v1, v5, hge, hf⟩
  simp only [intsD] at v0
  by_cases h0 : k = 0
  · subst h0
    simp [k84l0, v5]
    exact ⟨rfl, 0, ⟨_, _, rfl, by omega, by simp [v0, intsD], by simp [v1], by simp [v5], hge, hf.bump _⟩, fun h => by omega⟩
  · have hk1 : k - 1 < l.length := by omega
    have w1 : IntKind.i64.wrap ((k : Int) - 1) = ((k - 1 : Nat) : Int) := by rw [wrap_i64 (by omega) (by omega)]; omega
    have p1 : (0 : Int) < (k : Int) := by omega
    obtain ⟨v, hv⟩ : ∃ v, l[k - 1] = v := ⟨_, rfl⟩
    obtain ⟨q, hq⟩ : ∃ q, q = k - 1 := ⟨_, rfl⟩
    rw [← hq] at w1
    have hq1 : q < l.length := by omega
    have hv' : l[q] = v := by rw [← hv]; congr
    have p2 : 0 < k := by omega
    by_cases hlt : n ≤ v
    · simp [k84l0, v0, v1, v5, p2, w1, hq1, hv', hlt, D.cells]
      refine ⟨q, by omega, _, _, rfl, by omega, by simp [v0, intsD], by simp [v1], by simp, fun j hj hqj => ?_, ?_⟩
      · by_cases e : j = q
        · subst e; rw [hv']; exact hlt
        · exact hge j hj (by omega)
      · repeat' first | exact hf | apply Heap.Fr.bump | apply Heap.Fr.set
    · simp [k84l0, v0, v1, v5, p2, w1, hq1, hv', hlt, D.cells]
      exact ⟨rfl, k, ⟨_, _, rfl, by omega, by simp [v0, intsD], by simp [v1], by simp [v5], hge, hf.bump _⟩, fun _ _ => by rw [hv]; omega⟩
theorem appS_zero {t et sz bytes : Nat} {h : Heap} {m : Nat} {news cs : List D} {k : Nat} {ty : TypeId} (h0 : 0 < m) (hr : m * bytes ≤ room) (hm : m ≤ maxLen) :
    appS t et sz bytes h m news k 0 0 sz (some 0) (some (.cells ty cs)) = (h.alloc t (.cells et news)).map fun h => (.slr t 0 m sz none, h) := by
  unfold appS
  simp [hr, hm, show ¬ m = 0 by omega]
theorem chunk_ints : ∀ l : List Int, chunk 1 l.length (l.map D.int) = l.map D.int
  | [] => rfl
  | a :: l => by
    have := chunk_ints l
    simp [chunk, this]
theorem ints_all (l : List Int) : (l.map D.int).all (fun e => e.cells.length == 1) = true := by simp [D.cells]
theorem ints_one (l : List Int) : (l.map D.int).all D.one = true := by simp [D.one]
theorem ints_flat : ∀ l : List Int, (l.map D.int).flatMap D.cells = l.map D.int
  | [] => rfl
  | a :: l => by rw [List.map_cons, List.flatMap_cons, ints_flat l]; rfl
theorem headInts (l : List Int) : headOk 1 (l.map D.int) = true := by cases l <;> rfl
theorem end_ints (h : Heap) (C : List Int) (q : Nat) (hq : q = C.length) : each (Go.Em.frz h 23) (List.take q (C.map D.int)) = some (C.map D.int, []) ∧ chunk 1 q (C.map D.int) = C.map D.int := by
  subst hq
  rw [List.take_of_length_le (by simp)]
  exact ⟨each_canon h 22 _ (ints_canonL C), chunk_ints C⟩
set_option maxHeartbeats 4000000 in
theorem with_run (l : List Int) (hr : Rise l) (hl : l.length ≤ 4000) (v : Int) {n : Nat} (hn : l.length + 5 ≤ n) : pureCall (rc pg n) 84 [intsD l, D.int v] = some (.ret (intsD (insF l v))) := by
  obtain ⟨m, rfl, e⟩ := body (pg := pg) (f := 84) (args := [intsD l, D.int v]) (show 0 < n by omega) rfl rfl
  rw [e]
  simp [k84, Env.v_ini, intsD, ev_loop]
  refine Res.endsAfter (lp_rule 0 (WI l v) _ (with_round l v hl) l.length m _ (by omega) ⟨_, _, rfl, by omega, by simp [Env.v_ini, intsD], by simp [Env.v_ini], by simp, fun j hj h => by omega, ?_⟩) ?_
  · repeat' first | exact Heap.Fr.empty | apply Heap.Fr.bump | apply Heap.Fr.set
  rintro x s ⟨rfl, k, ⟨x, h, rfl, hk, v0, v1, v5, hge, hf⟩, hlow⟩
  have hins := ins_at hr hk hge (fun h0 => hlow h0 hk)
  have hfr : ∀ j, h.raw (h.next + j) = none := fun j => hf _ (by omega)
  simp only [intsD] at v0
  have hcan := fun h n (l : List Int) => each_canon h n _ (ints_canonL l)
  obtain ⟨A, hA⟩ : ∃ A, A = l.take k := ⟨_, rfl⟩
  obtain ⟨B, hB⟩ : ∃ B, B = l.drop k := ⟨_, rfl⟩
  have hAl : A.length = k := by rw [hA]; simp; omega
  have hBl : B.length = l.length - k := by rw [hB]; simp
  have tA : List.take k (l.map D.int) = A.map D.int := by rw [hA, List.map_take]
  have tB : List.drop k (l.map D.int) = B.map D.int := by rw [hB, List.map_drop]
  have tB2 : List.take (l.length - k) (B.map D.int) = B.map D.int := List.take_of_length_le (by simp [hBl])
  have a1 := ints_all A
  have a2 := ints_one A
  have a3 := ints_flat A
  have b1 := ints_all B
  have b2 := ints_one B
  have b3 := ints_flat B
  by_cases h3 : k < l.length
  · rw [dif_pos h3] at hins
    obtain ⟨w, hw⟩ : ∃ w, l[k] = w := ⟨_, rfl⟩
    rw [hw] at hins
    by_cases h4 : w = v
    · rw [if_pos h4] at hins
      have h4' : (w == v) = true := by simp [h4]
      simp [v0, v1, v5, h3, hw, h4', D.cells, hins, hcan]
    · rw [if_neg h4, ← hA, ← hB] at hins
      have h4' : (w == v) = false := by simp [h4]
      have hB0 : B.length ≠ 0 := by omega
      by_cases hk0 : k = 0
      · have hA0 : A = [] := List.eq_nil_of_length_eq_zero (by omega)
        subst hA0
        have hz := fun t hh news ty cs kk => appS_zero (t := t) (et := 3) (sz := 1) (bytes := 8) (h := hh) (m := 1) (news := news) (cs := cs) (k := kk) (ty := ty) (by omega) (by unfold room; omega) (by unfold maxLen; omega)
        have hB1 := fun t hh news kk cs (hc : cs.length = 1 * 1) => appS_none (t := t) (et := 3) (sz := 1) (bytes := 8) (h := hh) (m := B.length) (news := news) (k := kk) (n := 1) (cs := cs) hc (by omega) (by unfold room; omega) (by unfold maxLen; omega)
        simp [v0, v1, v5, h3, hw, h4', D.cells, D.one, hins, hfr, Nat.add_assoc, hk, headInts, tA, tB, tB2, b2, b3, hB0, apK_zero_slr, apK_some, hz, hB1, zerosD]
        exact ⟨by omega, _, _, _, (end_ints _ (v :: B) _ (by simp; omega)).1, (end_ints .empty (v :: B) _ (by simp; omega)).2, rfl⟩
      · have hA0 : A.length ≠ 0 := by omega
        have hz := fun t hh news ty cs kk => appS_zero (t := t) (et := 3) (sz := 1) (bytes := 8) (h := hh) (m := A.length) (news := news) (cs := cs) (k := kk) (ty := ty) (by omega) (by unfold room; omega) (by unfold maxLen; omega)
        have hA1 := fun t hh news kk => appS_none (t := t) (et := 3) (sz := 1) (bytes := 8) (h := hh) (m := 1) (news := news) (k := kk) (n := A.length) (cs := A.map D.int) (by simp) (by omega) (by unfold room; omega) (by unfold maxLen; omega)
        have hB1 := fun t hh news kk cs (hc : cs.length = (A.length + 1) * 1) => appS_none (t := t) (et := 3) (sz := 1) (bytes := 8) (h := hh) (m := B.length) (news := news) (k := kk) (n := A.length + 1) (cs := cs) hc (by omega) (by unfold room; omega) (by unfold maxLen; omega)
        simp [v0, v1, v5, h3, hw, h4', D.cells, D.one, hins, hfr, Nat.add_assoc, hk, headInts, tA, tB, tB2, a2, a3, b2, b3, hA0, hB0, apK_some, hz, hA1, hB1, zerosD]
        have e1 := fun h => end_ints h (A ++ v :: B) (A.length + (1 + B.length)) (by simp; omega)
        rw [List.map_append, List.map_cons] at e1
        exact ⟨by omega, _, _, _, (e1 _).1, (e1 .empty).2, rfl⟩
  · rw [dif_neg h3] at hins
    have hkl : k = l.length := by omega
    have hB0 : B = [] := List.eq_nil_of_length_eq_zero (by omega)
    subst hB0
    have hlA : A = l := by rw [hA, hkl]; exact List.take_length
    by_cases hk0 : k = 0
    · have hA0 : A = [] := List.eq_nil_of_length_eq_zero (by omega)
      have hl0 : l = [] := by rw [← hlA, hA0]
      subst hl0
      subst hA0
      have hz := fun t hh news ty cs kk => appS_zero (t := t) (et := 3) (sz := 1) (bytes := 8) (h := hh) (m := 1) (news := news) (cs := cs) (k := kk) (ty := ty) (by omega) (by unfold room; omega) (by unfold maxLen; omega)
      subst hk0
      simp [v0, v1, v5, D.cells, D.one, hins, hfr, Nat.add_assoc, headOk, apK_zero_slr, apK_some, hz, zerosD]
      rfl
    · have hA0 : A.length ≠ 0 := by omega
      have hz := fun t hh news ty cs kk => appS_zero (t := t) (et := 3) (sz := 1) (bytes := 8) (h := hh) (m := A.length) (news := news) (cs := cs) (k := kk) (ty := ty) (by omega) (by unfold room; omega) (by unfold maxLen; omega)
      have hA1 := fun t hh news kk => appS_none (t := t) (et := 3) (sz := 1) (bytes := 8) (h := hh) (m := 1) (news := news) (k := kk) (n := A.length) (cs := A.map D.int) (by simp) (by omega) (by unfold room; omega) (by unfold maxLen; omega)
      simp [v0, v1, v5, h3, D.cells, D.one, hins, hfr, Nat.add_assoc, hk, headInts, tA, tB, a2, a3, hA0, apK_zero_slr, apK_some, hz, hA1, zerosD]
      have e1 := fun h => end_ints h (A ++ [v]) (A.length + 1) (by simp)
      rw [List.map_append, List.map_cons, List.map_nil] at e1
      rw [← hlA]
      exact ⟨_, ⟨_, (e1 _).1⟩, (e1 .empty).2⟩
def IsInts (d : D) (l : List Int) : Prop := d = intsD l ∨ (l = [] ∧ d = .val (.slice none 0 0))
theorem IsInts.frz {d : D} {l : List Int} (h : IsInts d l) (v : Int) (hh : Heap) : each (Go.Em.frz hh depth) [d, D.int v] = some ([intsD l, D.int v], []) := by
  rcases h with rfl | ⟨rfl, rfl⟩
  · exact each_canon hh 23 _ (by simp [intsD, ints_canonL])
  · rfl
theorem dcore_z {c : Cfg} {R : Rc} {base : Nat} {d : Option Nat} {f : FuncId} {args : List X} {ts hs : List HK} {wt : Nat} {e : List D} {h : Heap} {a : D} {bs cs : List D} {r : D} (hs' : c.pg.sh f = false) (ha : args.map (rd c.pg.gl e) = a :: bs) (hz : ∀ h, each (Go.Em.frz h depth) (a :: bs) = some (cs, []))
    (x : pureCall R f cs = some (.ret r)) : dcore c R base ⟨⟨none, d, .inr (.fn f args)⟩, some ts, hs, wt, false⟩ e h = some (r, h) := by
  unfold dcore
  simp only [want_none, hs', ha, hz, pureA, pureS, x, orS, Bool.false_eq_true, if_false, List.isEmpty_nil, Bool.true_or, Out.isPan, Out.d, thaw, BEq.rfl, Bool.and_self, if_true]
def RI (l : List Clm) (k : Nat) (s : St) : Prop := ∃ (x : Env 21) (h : Heap) (i : Nat), s = ⟨x.l, h, []⟩ ∧ i + k = l.length ∧ x.v 6 = clsD l ∧ x.v 7 = D.int l.length ∧ x.v 8 = D.int i ∧ IsInts (x.v 3) (marksF (l.take i)) ∧ h.Fr
set_option maxHeartbeats 2000000 in
theorem rmarks_round (l : List Clm) (hlen : l.length ≤ 1000) : ∀ n, 2010 ≤ n → ∀ k s, RI l k s → Res (k138l0.ev ⟨pg, 21, none⟩ (rc pg n) s) (Rnd (RI l) (fun x s => x = .exit 0 ∧ RI l 0 s) k) := by
  rintro n hn k s ⟨x, h, i, rfl, hik, v6, v7, v8, v3, hf⟩
  simp only [clsD] at v6
  by_cases hi : i < l.length
  · obtain ⟨c, hc⟩ : ∃ c, l[i] = c := ⟨_, rfl⟩
    have htk : l.take (i + 1) = l.take i ++ [c] := by rw [List.take_add_one, List.getElem?_eq_getElem hi, hc]; rfl
    have w1 : IntKind.i64.wrap ((i : Int) + 1) = (i : Int) + 1 := wrap_i64 (by omega) (by omega)
    have hfr : ∀ j, h.raw (h.next + j) = none := fun j => hf _ (by omega)
    have s62 : pg.sh 84 = false := rfl
    obtain ⟨M, hM⟩ : ∃ M, M = marksF (l.take i) := ⟨_, rfl⟩
    rw [← hM] at v3
    have hMr : Rise M := by rw [hM]; exact marks_rise _
    have hMl : M.length ≤ 2000 := by
      have := marks_len (l.take i)
      rw [← hM, List.length_take] at this; omega
    have hMl1 := insF_len M c.a
    have r1 := @with_run M hMr (by omega) c.a n (by omega)
    have r2 := @with_run (insF M c.a) (insF_rise hMr _) (by omega) c.b n (by omega)
    have hsn : marksF (l.take (i + 1)) = insF (insF M c.a) c.b := by rw [htk, marks_snoc, ← hM]
    have fz := v3.frz
    obtain ⟨d3, hd3⟩ : ∃ d, x.v 3 = d := ⟨_, rfl⟩
    rw [hd3] at fz
    have z1 : ∀ (e : List D) (h : Heap) (base : Nat) (ts hs : List HK) (wt : Nat), ([X.s 12, X.s 14].map (rd pg.gl e)) = [d3, D.int c.a] → dcore ⟨pg, 21, none⟩ (rc pg n) base ⟨⟨none, some 15, .inr (.fn 84 [(.s 12), (.s 14)])⟩, some ts, hs, wt, false⟩ e h = some (intsD (insF M c.a), h) :=
      fun e h base ts hs wt he => dcore_z (c := ⟨pg, 21, none⟩) s62 he (fz c.a) r1
    have hcan2 : D.canonL [intsD (insF M c.a), D.int c.b] = true := by simp [intsD, ints_canonL]
    simp only [intsD] at z1 r2 hcan2
    simp [k138l0, v6, v7, v8, hd3, hi, hc, clD, clC, D.cells, D.one, hfr, Nat.add_assoc, w1, z1, dcore_f, s62, hcan2, r2]
    refine ⟨k - 1, by omega, _, _, i + 1, rfl, by omega, by simp [v6, clsD], by simp [v7], by simp, .inl (by simp [hsn, intsD]), ?_⟩
    repeat' first | exact hf | apply Heap.Fr.bump | apply Heap.Fr.set
    all_goals (simp <;> omega)
  · simp [k138l0, v7, v8, hi]
    exact ⟨_, _, i, rfl, by omega, by simp [v6, clsD], by simp [v7], by simp [v8], by simpa using v3, hf.bump _⟩
theorem rmarks_run (l : List Clm) (hlen : l.length ≤ 1000) {n : Nat} (hn : l.length + 2015 ≤ n) : pureCall (rc pg n) 138 [clsD l] = some (.ret (intsD (marksF l))) := by
  obtain ⟨m, rfl, e⟩ := body (pg := pg) (f := 138) (args := [clsD l]) (show 0 < n by omega) rfl rfl
  rw [e]
  simp [k138, Env.v_ini, clsD, ev_loop]
  refine Res.endsAfter (lp_rule 2010 (RI l) _ (rmarks_round l hlen) l.length m _ (by omega) ⟨_, _, 0, rfl, by omega, by simp [clsD], by simp, by simp, .inr ⟨by simp [marksF], by simp⟩, ?_⟩) ?_
  · repeat' first | exact Heap.Fr.empty | apply Heap.Fr.bump | apply Heap.Fr.set
  · rintro x s ⟨rfl, x, h, i, rfl, hi, v6, v7, v8, v3, hf⟩
    have hil : i = l.length := by omega
    subst hil
    rw [List.take_length] at v3
    rcases v3 with v3 | ⟨h1, v3⟩
    · simp only [intsD] at v3
      have hcan := fun h n => each_canon h n _ (ints_canonL (marksF l))
      simp [v3, hcan, intsD]
    · simp [v3, h1, intsD]
end Go.Proofs.YtlfknfknlcgfcaaGreatDoor
/- Whether a list of claims is valid: by the program and by the document. -/
namespace Go.Proofs.YtlfknfknlcgfcaaGreatDoor
open Go Go.Em
set_option maxRecDepth 100000
def chkF (l : List Clm) : Int := if 400 < l.length then 2 else if l.all okF = true then (if 64 < (marksF l).length then 2 else 0) else 20
theorem chk_ok {l : List Clm} (h : chkF l = 0) : l.length ≤ 400 ∧ (∀ c ∈ l, okF c = true) ∧ (marksF l).length ≤ 64 := by
  unfold chkF at h
  split at h
  · cases h
  · split at h
    · rename_i h1 h2
      split at h
      · cases h
      · exact ⟨by omega, List.all_eq_true.1 h2, by omega⟩
    · cases h
theorem all_take {l : List Clm} {i : Nat} (hi : i < l.length) (h : (l.take i).all okF = true) (hc : okF l[i] = true) : (l.take (i + 1)).all okF = true := by
  rw [List.take_add_one, List.getElem?_eq_getElem hi, List.all_append, h]
  simp [hc]
def CI (l : List Clm) (k : Nat) (s : St) : Prop := ∃ (x : Env 25) (h : Heap) (i : Nat), s = ⟨x.l, h, []⟩ ∧ i + k = l.length ∧ x.v 0 = clsD l ∧ x.v 9 = clsD l ∧ x.v 10 = D.int l.length ∧ x.v 11 = D.int i ∧ (l.take i).all okF = true ∧ h.Fr
def CQ (l : List Clm) (x : Ex) (s : St) : Prop := (x = .exit 0 ∧ CI l 0 s) ∨ (x = .ret ∧ l.all okF = false ∧ ∃ (x : Env 25) (h : Heap), s = ⟨x.l, h, []⟩ ∧ x.v 2 = D.int 20)
set_option maxHeartbeats 1000000 in
theorem chk_round (l : List Clm) (hlen : l.length ≤ 400) : ∀ n, 2 ≤ n → ∀ k s, CI l k s → Res (k127l0.ev ⟨pg, 25, none⟩ (rc pg n) s) (Rnd (CI l) (CQ l) k) := by
  rintro n hn k s ⟨x, h, i, rfl, hik, v0, v9, v10, v11, hok, hf⟩
  simp only [clsD] at v9
  by_cases hi : i < l.length
  · obtain ⟨c, hc⟩ : ∃ c, l[i] = c := ⟨_, rfl⟩
    have w1 : IntKind.i64.wrap ((i : Int) + 1) = (i : Int) + 1 := wrap_i64 (by omega) (by omega)
    have hfr : ∀ j, h.raw (h.next + j) = none := fun j => hf _ (by omega)
    have hck := fun h => call_of (h := h) (pg := pg) (f := 173) rfl (by simp [cl_canon]) (@ck_run c n hn)
    simp only [clD, clC] at hck
    cases hb : okF c with
    | true =>
      have e0 : ckF c = 0 := by unfold ckF; rw [hb]; rfl
      rw [e0] at hck
      simp [k127l0, v9, v10, v11, hi, hc, clD, clC, D.cells, D.one, hfr, Nat.add_assoc, w1, hck]
      refine ⟨k - 1, by omega, _, _, i + 1, rfl, by omega, by simp [v0], by simp [v9, clsD], by simp [v10], by simp, all_take hi hok (by rw [hc]; exact hb), ?_⟩
      repeat' first | exact hf | apply Heap.Fr.bump | apply Heap.Fr.set
      all_goals (simp <;> omega)
    | false =>
      have e0 : ckF c = 20 := by unfold ckF; rw [hb]; rfl
      rw [e0] at hck
      simp [k127l0, v9, v10, v11, hi, hc, clD, clC, D.cells, D.one, hfr, Nat.add_assoc, hck]
      refine .inr ⟨rfl, ?_, _, _, rfl, by simp⟩
      rw [List.all_eq_false]
      exact ⟨c, by rw [← hc]; exact List.getElem_mem hi, by simp [hb]⟩
  · simp [k127l0, v10, v11, hi]
    exact .inl ⟨rfl, _, _, i, rfl, by omega, by simp [v0], by simp [v9, clsD], by simp [v10], by simp [v11], hok, hf.bump _⟩
set_option maxHeartbeats 1000000 in
theorem chk_run (l : List Clm) {n : Nat} (hn : 1000 ≤ n) : pureCall (rc pg n) 127 [clsD l] = some (.ret (D.int (chkF l))) := by
  obtain ⟨m, rfl, e⟩ := body (pg := pg) (f := 127) (args := [clsD l]) (show 0 < n by omega) rfl rfl
  rw [e]
  by_cases h0 : 400 < l.length
  · have h0' : (400 : Int) < l.length := by omega
    have e0 : chkF l = 2 := by unfold chkF; rw [if_pos h0]
    simp [k127, Env.v_ini, clsD, h0', e0]
  · have h0' : ¬ (400 : Int) < l.length := by omega
    simp [k127, Env.v_ini, clsD, h0', ev_loop]
    refine Res.endsAfter (lp_rule 2 (CI l) _ (chk_round l (by omega)) l.length m _ (by omega) ⟨_, _, 0, rfl, by omega, by simp [Env.v_ini, clsD], by simp [clsD], by simp, by simp, by simp, ?_⟩) ?_
    · repeat' first | exact Heap.Fr.empty | apply Heap.Fr.bump | apply Heap.Fr.set
    · rintro x s (⟨rfl, x, h, i, rfl, hi, v0, v9, v10, v11, hok, hf⟩ | ⟨rfl, hbad, x, h, rfl, v2⟩)
      · have hil : i = l.length := by omega
        subst hil
        rw [List.take_length] at hok
        have hm := fun h => call_of (h := h) (pg := pg) (f := 174) rfl (cls_canon l) (@marks_run l (fun c hc => ok_marks (List.all_eq_true.1 hok c hc)) (by omega) m (by omega))
        have hml := marks_len l
        simp only [clsD] at v0 hm
        by_cases h1 : 64 < (marksF l).length
        · have h1' : (64 : Int) < (marksF l).length := by omega
          have e0 : chkF l = 2 := by unfold chkF; rw [if_neg h0, if_pos hok, if_pos h1]
          simp [v0, hm, h1', e0]
        · have h1' : ¬ (64 : Int) < (marksF l).length := by omega
          have e0 : chkF l = 0 := by unfold chkF; rw [if_neg h0, if_pos hok, if_neg h1]
          simp [v0, hm, h1', e0]
      · have e0 : chkF l = 20 := by unfold chkF; rw [if_neg h0, if_neg (by rw [hbad]; simp)]
        simp [v2, e0]
def CI' (l : List Clm) (k : Nat) (s : St) : Prop := ∃ (x : Env 22) (h : Heap) (i : Nat), s = ⟨x.l, h, []⟩ ∧ i + k = l.length ∧ x.v 0 = clsD l ∧ x.v 8 = clsD l ∧ x.v 9 = D.int l.length ∧ x.v 10 = D.int i ∧ (l.take i).all okF = true ∧ h.Fr
def CQ' (l : List Clm) (x : Ex) (s : St) : Prop := (x = .exit 0 ∧ CI' l 0 s) ∨ (x = .ret ∧ l.all okF = false ∧ ∃ (x : Env 22) (h : Heap), s = ⟨x.l, h, []⟩ ∧ x.v 2 = D.int 20)
set_option maxHeartbeats 1000000 in
theorem rchk_round (l : List Clm) (hlen : l.length ≤ 400) : ∀ n, 2 ≤ n → ∀ k s, CI' l k s → Res (k122l0.ev ⟨pg, 22, none⟩ (rc pg n) s) (Rnd (CI' l) (CQ' l) k) := by
  rintro n hn k s ⟨x, h, i, rfl, hik, v0, v9, v10, v11, hok, hf⟩
  simp only [clsD] at v9
  by_cases hi : i < l.length
  · obtain ⟨c, hc⟩ : ∃ c, l[i] = c := ⟨_, rfl⟩
    have w1 : IntKind.i64.wrap ((i : Int) + 1) = (i : Int) + 1 := wrap_i64 (by omega) (by omega)
    have hfr : ∀ j, h.raw (h.next + j) = none := fun j => hf _ (by omega)
    have hck := fun h => call_of (h := h) (pg := pg) (f := 172) rfl (by simp [cl_canon]) (@rck_run c n hn)
    simp only [clD, clC] at hck
    cases hb : okF c with
    | true =>
      have e0 : ckF c = 0 := by unfold ckF; rw [hb]; rfl
      rw [e0] at hck
      simp [k122l0, v9, v10, v11, hi, hc, clD, clC, D.cells, D.one, hfr, Nat.add_assoc, w1, hck]
      refine ⟨k - 1, by omega, _, _, i + 1, rfl, by omega, by simp [v0], by simp [v9, clsD], by simp [v10], by simp, all_take hi hok (by rw [hc]; exact hb), ?_⟩
      repeat' first | exact hf | apply Heap.Fr.bump | apply Heap.Fr.set
      all_goals (simp <;> omega)
    | false =>
      have e0 : ckF c = 20 := by unfold ckF; rw [hb]; rfl
      rw [e0] at hck
      simp [k122l0, v9, v10, v11, hi, hc, clD, clC, D.cells, D.one, hfr, Nat.add_assoc, hck]
      refine .inr ⟨rfl, ?_, _, _, rfl, by simp⟩
      rw [List.all_eq_false]
      exact ⟨c, by rw [← hc]; exact List.getElem_mem hi, by simp [hb]⟩
  · simp [k122l0, v10, v11, hi]
    exact .inl ⟨rfl, _, _, i, rfl, by omega, by simp [v0], by simp [v9, clsD], by simp [v10], by simp [v11], hok, hf.bump _⟩
set_option maxHeartbeats 1000000 in
theorem rchk_run (l : List Clm) {n : Nat} (hn : 3000 ≤ n) : pureCall (rc pg n) 122 [clsD l] = some (.ret (D.int (chkF l))) := by
  obtain ⟨m, rfl, e⟩ := body (pg := pg) (f := 122) (args := [clsD l]) (show 0 < n by omega) rfl rfl
  rw [e]
  by_cases h0 : 400 < l.length
  · have h0' : (400 : Int) < l.length := by omega
    have e0 : chkF l = 2 := by unfold chkF; rw [if_pos h0]
    simp [k122, Env.v_ini, clsD, h0', e0]
  · have h0' : ¬ (400 : Int) < l.length := by omega
    simp [k122, Env.v_ini, clsD, h0', ev_loop]
    refine Res.endsAfter (lp_rule 2 (CI' l) _ (rchk_round l (by omega)) l.length m _ (by omega) ⟨_, _, 0, rfl, by omega, by simp [Env.v_ini, clsD], by simp [clsD], by simp, by simp, by simp, ?_⟩) ?_
    · repeat' first | exact Heap.Fr.empty | apply Heap.Fr.bump | apply Heap.Fr.set
    · rintro x s (⟨rfl, x, h, i, rfl, hi, v0, v9, v10, v11, hok, hf⟩ | ⟨rfl, hbad, x, h, rfl, v2⟩)
      · have hil : i = l.length := by omega
        subst hil
        rw [List.take_length] at hok
        have hm := fun h => call_of (h := h) (pg := pg) (f := 138) rfl (cls_canon l) (@rmarks_run l (by omega) m (by omega))
        simp only [clsD, intsD] at v0 hm
        by_cases h1 : 64 < (marksF l).length
        · have h1' : (64 : Int) < (marksF l).length := by omega
          have e0 : chkF l = 2 := by unfold chkF; rw [if_neg h0, if_pos hok, if_pos h1]
          simp [v0, hm, h1', e0]
        · have h1' : ¬ (64 : Int) < (marksF l).length := by omega
          have e0 : chkF l = 0 := by unfold chkF; rw [if_neg h0, if_pos hok, if_neg h1]
          simp [v0, hm, h1', e0]
      · have e0 : chkF l = 20 := by unfold chkF; rw [if_neg h0, if_neg (by rw [hbad]; simp)]
        simp [v2, e0]
end Go.Proofs.YtlfknfknlcgfcaaGreatDoor
/- Where a chain leads, and what it shows: by the program and by the document. -/
namespace Go.Proofs.YtlfknfknlcgfcaaGreatDoor
open Go Go.Em
set_option maxRecDepth 100000
structure Stp where
  c : Int
  back : Bool
def stC (s : Stp) : List D := [D.int s.c, D.bool s.back]
def stD (s : Stp) : D := .agg (stC s)
def stsD (l : List Stp) : D := .sl false (l.map stD)
abbrev W3 := Int × Int × Int
def w4 (p : W3 × Int) : D := .tup [D.int p.1.1, D.int p.1.2.1, D.int p.1.2.2, D.int p.2]
end Go.Proofs.YtlfknfknlcgfcaaGreatDoor
/- Where a chain leads: the functions. -/
namespace Go.Proofs.YtlfknfknlcgfcaaGreatDoor
open Go Go.Em
set_option maxRecDepth 100000
end Go.Proofs.YtlfknfknlcgfcaaGreatDoor
