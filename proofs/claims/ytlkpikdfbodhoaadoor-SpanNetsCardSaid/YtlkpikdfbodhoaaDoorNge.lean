/- Grow, by the document: a row of the new net. -/
import Derived.Test.YtlkpikdfbodhoaaDoorNg9
import Derived.Test.YtlkpikdfbodhoaaDoorSh1
namespace Go.Proofs.YtlkpikdfbodhoaaDoor
open Go Go.Em Go.Em.Net
set_option maxRecDepth 100000
def wE (M M' : List Int) (A : Nat → Nat → Int) (i j : Nat) : Int := if i = j then 0 else if M'.getD i 0 ∈ M ∧ M'.getD j 0 ∈ M then A (placeF M (M'.getD i 0)) (placeF M (M'.getD j 0)) else 1000000000
def updI (y : Nat → Int) (q : Nat) (v : Int) : Nat → Int := fun t => if t = q then v else y t
theorem yCs_upd {n q : Nat} (hq : q < n) (y : Nat → Int) (v : Int) : (yCs n y).take q ++ D.int v :: (yCs n y).drop (q + 1) = yCs n (updI y q v) := by
  unfold updI
  rw [← yCs_set, List.set_eq_take_append_cons_drop, if_pos (by rw [yCs_len]; exact hq)]
theorem upd_upd (y : Nat → Int) (q : Nat) (u v : Int) : updI (updI y q u) q v = updI y q v := by
  funext t; unfold updI; split <;> rfl
def partE (f : Nat → Int) (q : Nat) : Nat → Int := fun v => if v < q then f v else 0
theorem part_upd (f : Nat → Int) (q : Nat) {v : Int} (h : f q = v) : updI (partE f q) q v = partE f (q + 1) := by
  funext t
  unfold updI partE
  by_cases e : t = q
  · subst e; simp [h]
  · by_cases e2 : t < q
    · simp [e, e2, show t < q + 1 by omega]
    · simp [e, e2, show ¬ t < q + 1 by omega]
def GrI (M M' : List Int) (A : Nat → Nat → Int) (i rb b6 : Nat) (h0 : Heap) (k : Nat) (s : St) : Prop := ∃ (x : Env 183) (h : Heap) (q : Nat), s = ⟨x.l, h, []⟩ ∧ q + k = M'.length ∧ (x.v 2 = .ptr 2 0 ∧ x.v 3 = .ptr 3 0 ∧ x.v 4 = .ptr 4 0 ∧ x.v 6 = .ptr b6 0 ∧ x.v 7 = D.int i ∧ x.v 8 = D.int (M'.getD i 0) ∧ x.v 9 = .slr rb 0 M'.length 1 (some M'.length) ∧ x.v 44 = intsD M' ∧ x.v 45 = D.int M'.length ∧ x.v 46 = D.int i ∧ x.v 56 = intsD M' ∧ x.v 57 = D.int M'.length) ∧ x.v 58 = D.int q ∧ h.get 2 = some (.cells 40 [intsD M, rowsD M.length A]) ∧ h.get rb = some (.cells 3 (yCs M'.length (partE (wE M M' A i) q))) ∧ rb ≠ 2 ∧ rb < h.next ∧ h.Fr ∧ h0.next ≤ h.next ∧ ∀ j, j < h0.next → j ≠ rb → h.raw j = h0.raw j
set_option maxHeartbeats 16000000 in
theorem gr_round (M M' : List Int) (hM : M.length ≤ 64) (hM' : M'.length ≤ 64) (A : Nat → Nat → Int) (i rb b6 : Nat) (hi : i < M'.length) (h0 : Heap) : ∀ n, 300 ≤ n → ∀ k s, GrI M M' A i rb b6 h0 k s → Res (k20l0.ev ⟨pg, 183, none⟩ (rc pg n) s) (Rnd (GrI M M' A i rb b6 h0) (fun x s => x = .exit 2 ∧ GrI M M' A i rb b6 h0 0 s) k) := by
  rintro n hn k s ⟨x, h, q, rfl, hqk, ⟨v2, v3, v4, v6, v7, v8, v9, v44, v45, v46, v56, v57⟩, v58, g2, gr, nrb, rl, hf, u1, u2⟩
  by_cases hq : q < M'.length
  · have w1 : IntKind.i64.wrap ((q : Int) + 1) = (q : Int) + 1 := wrap_i64 (by omega) (by omega)
    obtain ⟨m, hm⟩ : ∃ m, M'.getD i 0 = m := ⟨_, rfl⟩
    obtain ⟨w, hw⟩ : ∃ w, M'.getD q 0 = w := ⟨_, rfl⟩
    have hw' : M'[q] = w := by rw [← hw, List.getD, List.getElem?_eq_getElem hq]; rfl
    have hc1 := ints_canonL M
    have f1 := fun h => call_of (h := h) (pg := pg) (f := 56) rfl (by simp [intsD, hc1]) (idx_run M (by omega) m (n := n) (by omega))
    have f2 := fun h => call_of (h := h) (pg := pg) (f := 56) rfl (by simp [intsD, hc1]) (idx_run M (by omega) w (n := n) (by omega))
    obtain ⟨y, hy⟩ : ∃ y, y = partE (wE M M' A i) q := ⟨_, rfl⟩
    have hy1 : ∀ v, wE M M' A i q = v → updI y q v = partE (wE M M' A i) (q + 1) := fun v hv => by rw [hy]; exact part_upd _ _ hv
    rw [← hy] at gr
    rw [hm] at v8
    have hup := fun y v => yCs_upd hq y v
    have hyl := fun y => yCs_len M'.length y
    have q1 : q + 1 ≤ M'.length := hq
    have n1 : (2 = rb) = False := by simp; omega
    have n2 : (rb = 2) = False := by simp [nrb]
    simp only [intsD] at v44 v56 f1 f2
    simp only [intsD, rowsD] at g2
    have hfin : ∀ (x' : Env 183) (h' : Heap), x'.v 2 = .ptr 2 0 → x'.v 3 = .ptr 3 0 → x'.v 4 = .ptr 4 0 → x'.v 6 = .ptr b6 0 → x'.v 7 = D.int i → x'.v 8 = D.int m → x'.v 9 = .slr rb 0 M'.length 1 (some M'.length) → x'.v 44 = intsD M' → x'.v 45 = D.int M'.length → x'.v 46 = D.int i → x'.v 56 = intsD M' → x'.v 57 = D.int M'.length → x'.v 58 = D.int (q + 1) → h'.get 2 = some (.cells 40 [intsD M, rowsD M.length A]) → h'.get rb = some (.cells 3 (yCs M'.length (partE (wE M M' A i) (q + 1)))) → rb < h'.next → h'.Fr → h0.next ≤ h'.next → (∀ j, j < h0.next → j ≠ rb → h'.raw j = h0.raw j) → ∃ j, k = j + 1 ∧ GrI M M' A i rb b6 h0 j ⟨x'.l, h', []⟩ := fun x' h' a2 a3 a4 a6 a7 a8 a9 a44 a45 a46 a56 a57 a58 b1 b2 b3 b4 b5 b6' => ⟨k - 1, by omega, x', h', q + 1, rfl, by omega, ⟨a2, a3, a4, a6, a7, by rw [hm]; exact a8, a9, a44, a45, a46, a56, a57⟩, by simpa using a58, b1, b2, nrb, b3, b4, b5, b6'⟩
    have k1 := hc1
    by_cases hiq : i = q
    · have hz := hy1 0 (if_pos hiq)
      subst hiq
      simp [k20l0, v2, v7, v8, v9, v56, v57, v58, hq, hw', D.cells, D.one, g2, gr, f1, f2, hup, hyl, q1, n1, n2, upd_upd, w1, hz]
      refine hfin _ _ (by simp [v2]) (by simp [v3]) (by simp [v4]) (by simp [v6]) (by simp [v7]) (by simp [v8]) (by simp [v9]) (by simp [v44, intsD]) (by simp [v45]) (by simp [v46]) (by simp [v56, intsD]) (by simp [v57]) (by simp) (by simp [n1, g2, intsD, rowsD]) (by simp) (by simp; omega) ?_ (by simp; omega) (fun j hj hr => by simp [hr, u2 j hj hr])
      repeat' first | exact hf | apply Heap.Fr.bump | apply Heap.Fr.set
      all_goals first | omega | (simp <;> omega)
    · have hiq' : ((i : Int) == (q : Int)) = false := by simp; omega
      by_cases ha : m ∈ M
      · have pa : posF M m = placeF M m := if_pos ha
        obtain ⟨a1, a2⟩ := place_at ha
        rw [pa] at f1
        by_cases hb : w ∈ M
        · have pb : posF M w = placeF M w := if_pos hb
          obtain ⟨b1, b2⟩ := place_at hb
          rw [pb] at f2
          obtain ⟨a, hae⟩ : ∃ a, a = placeF M m := ⟨_, rfl⟩
          obtain ⟨b, hbe⟩ : ∃ b, b = placeF M w := ⟨_, rfl⟩
          rw [← hae] at f1 a1
          rw [← hbe] at f2 b1
          have hv : wE M M' A i q = A a b := by unfold wE; rw [if_neg hiq, hm, hw, if_pos ⟨ha, hb⟩, hae, hbe]
          have hz := hy1 _ hv
          have y1 := fun a => yCs_len M.length (A a)
          have g3 := fun h' => yCs_at (y := A a) b1 h'
          have a3 : a + 1 ≤ M.length := a1
          have b3 : b + 1 ≤ M.length := b1
          simp [-beq_iff_eq, -beq_eq_false_iff_ne, k20l0, v2, v7, v8, v9, v56, v57, v58, hq, hw', D.cells, D.one, g2, gr, f1, f2, hup, hyl, q1, n1, n2, upd_upd, w1, hiq', a1, b1, a3, b3, y1, g3, hz]
          refine hfin _ _ (by simp [v2]) (by simp [v3]) (by simp [v4]) (by simp [v6]) (by simp [v7]) (by simp [v8]) (by simp [v9]) (by simp [v44, intsD]) (by simp [v45]) (by simp [v46]) (by simp [v56, intsD]) (by simp [v57]) (by simp) (by simp [n1, g2, intsD, rowsD]) (by simp) (by simp; omega) ?_ (by simp; omega) (fun j hj hr => by simp [hr, u2 j hj hr])
          repeat' first | exact hf | apply Heap.Fr.bump | apply Heap.Fr.set
          all_goals first | omega | (simp <;> omega)
        · have pb : posF M w = -1 := if_neg hb
          rw [pb] at f2
          have hv : wE M M' A i q = 1000000000 := by unfold wE; rw [if_neg hiq, hm, hw, if_neg (fun e => hb e.2)]
          have hz := hy1 _ hv
          simp [-beq_iff_eq, -beq_eq_false_iff_ne, k20l0, v2, v7, v8, v9, v56, v57, v58, hq, hw', D.cells, D.one, g2, gr, f1, f2, hup, hyl, q1, n1, n2, upd_upd, w1, hiq', hz]
          refine hfin _ _ (by simp [v2]) (by simp [v3]) (by simp [v4]) (by simp [v6]) (by simp [v7]) (by simp [v8]) (by simp [v9]) (by simp [v44, intsD]) (by simp [v45]) (by simp [v46]) (by simp [v56, intsD]) (by simp [v57]) (by simp) (by simp [n1, g2, intsD, rowsD]) (by simp) (by simp; omega) ?_ (by simp; omega) (fun j hj hr => by simp [hr, u2 j hj hr])
          repeat' first | exact hf | apply Heap.Fr.bump | apply Heap.Fr.set
          all_goals first | omega | (simp <;> omega)
      · have pa : posF M m = -1 := if_neg ha
        rw [pa] at f1
        have hv : wE M M' A i q = 1000000000 := by unfold wE; rw [if_neg hiq, hm, hw, if_neg (fun e => ha e.1)]
        have hz := hy1 _ hv
        simp [-beq_iff_eq, -beq_eq_false_iff_ne, k20l0, v2, v7, v8, v9, v56, v57, v58, hq, hw', D.cells, D.one, g2, gr, f1, f2, hup, hyl, q1, n1, n2, upd_upd, w1, hiq', hz]
        refine hfin _ _ (by simp [v2]) (by simp [v3]) (by simp [v4]) (by simp [v6]) (by simp [v7]) (by simp [v8]) (by simp [v9]) (by simp [v44, intsD]) (by simp [v45]) (by simp [v46]) (by simp [v56, intsD]) (by simp [v57]) (by simp) (by simp [n1, g2, intsD, rowsD]) (by simp) (by simp; omega) ?_ (by simp; omega) (fun j hj hr => by simp [hr, u2 j hj hr])
        repeat' first | exact hf | apply Heap.Fr.bump | apply Heap.Fr.set
        all_goals first | omega | (simp <;> omega)
  · simp [k20l0, v57, v58, hq]
    exact ⟨_, _, q, rfl, by omega, ⟨by simp [v2], by simp [v3], by simp [v4], by simp [v6], by simp [v7], by simp [v8], by simp [v9], by simp [v44], by simp [v45], by simp [v46], by simp [v56], by simp [v57]⟩, by simp [v58], by simp [g2], by simp [gr], nrb, by simp; omega, hf.bump _, by simp; omega, fun j hj hr => by simp [u2 j hj hr]⟩
end Go.Proofs.YtlkpikdfbodhoaaDoor
/- Grow, by the document: the rows of the new net. -/
namespace Go.Proofs.YtlkpikdfbodhoaaDoor
open Go Go.Em Go.Em.Net
set_option maxRecDepth 100000
theorem part_all (n : Nat) (f : Nat → Int) : yCs n (partE f n) = yCs n f := yCs_ext fun j hj => by unfold partE; rw [if_pos hj]
def GmI (M M' : List Int) (A : Nat → Nat → Int) (c : Clm) (b6 : Nat) (k : Nat) (s : St) : Prop := ∃ (x : Env 183) (h : Heap) (i : Nat) (ks : List Nat) (d : D), s = ⟨x.l, h, []⟩ ∧ i + k = M'.length ∧ x.v 2 = .ptr 2 0 ∧ x.v 3 = .ptr 3 0 ∧ x.v 4 = .ptr 4 0 ∧ x.v 6 = .ptr b6 0 ∧ x.v 44 = intsD M' ∧ x.v 45 = D.int M'.length ∧ x.v 46 = D.int i ∧ h.get b6 = some (.cells 40 [intsD M', d]) ∧ h.get 2 = some (.cells 40 [intsD M, rowsD M.length A]) ∧ h.get 3 = some (.cells 42 (clC c)) ∧ h.get 4 = some (.cells 40 nil2) ∧ b6 < h.next ∧ 4 < b6 ∧ ks.length = i ∧ ks.Nodup ∧ (∀ q ∈ ks, q < h.next ∧ 4 < q) ∧ (∀ j, ∀ hj : j < ks.length, h.get ks[j] = some (.cells 3 (yCs M'.length (wE M M' A j)))) ∧ GY 31 i (ks.map (rowS M'.length)) h d ∧ h.Fr
set_option maxHeartbeats 16000000 in
theorem gm_round (M M' : List Int) (hM : M.length ≤ 64) (hM' : M'.length ≤ 64) (A : Nat → Nat → Int) (cl : Clm) (b6 : Nat) : ∀ f, 400 ≤ f → ∀ c s, GmI M M' A cl b6 c s → Res (k20l1.ev ⟨pg, 183, none⟩ (rc pg f) s) (Rnd (GmI M M' A cl b6) (fun x s => x = .exit 0 ∧ GmI M M' A cl b6 0 s) c) := by
  rintro f hf c s ⟨x, h, i, ks, d, rfl, hic, v2, v3, v4, v6, v44, v45, v46, g6, g2, g3, g4, n6, n46, hks, hnd, hkq, hrow, gy, hfr'⟩
  by_cases hi : i < M'.length
  · have w1 : IntKind.i64.wrap ((i : Int) + 1) = (i : Int) + 1 := wrap_i64 (by omega) (by omega)
    have hfr : ∀ j, h.raw (h.next + j) = none := fun j => hfr' _ (by omega)
    have hr1 : (8 : Int) * M'.length ≤ (room : Int) := by unfold room; omega
    have z1 : zerosD [.int .i64 0] 1 M'.length = yCs M'.length (partE (wE M M' A i) 0) := by
      unfold zerosD yCs
      rw [Nat.mul_one]
      refine List.map_congr_left fun q _ => ?_
      simp [Nat.mod_one, partE]
    have o1 : ∀ a b c d (e : Option Nat), D.one (.slr a b c d e) = true := fun _ _ _ _ _ => rfl
    obtain ⟨m, hm⟩ : ∃ m, M'[i] = m := ⟨_, rfl⟩
    have hm2 : M'.getD i 0 = m := by rw [← hm, List.getD, List.getElem?_eq_getElem hi]; rfl
    have hm3 : M'[i]?.getD 0 = m := by rw [List.getElem?_eq_getElem hi, hm]; rfl
    have nn : ∀ j, (b6 = h.next + j) = False := fun j => by simp; omega
    have nn2 : ∀ j, (2 = h.next + j) = False := fun j => by simp; omega
    simp only [intsD] at g6 v44
    simp [k20l1, v2, v3, v4, v6, v44, v45, v46, hi, hm, g6, nn, hfr, hr1, z1, D.cells, D.one, Nat.add_assoc, ev_loop]
    refine Res.in3 (lp_rule 300 (GrI M M' A i (h.next + 420) b6 _) _ (gr_round M M' hM hM' A i (h.next + 420) b6 hi _) M'.length f _ (by omega) ⟨_, _, 0, rfl, by omega, ⟨by simp [v2], by simp [v3], by simp [v4], by simp [v6], by simp, by simp [hm3], by simp, by simp [v44, intsD], by simp [v45], by simp [v46], by simp [intsD], by simp⟩, by simp, by simp [nn2, g2], by simp, by omega, by simp <;> omega, ?_, Nat.le_refl _, fun j _ _ => rfl⟩) ?_
    · repeat' first | exact hfr' | apply Heap.Fr.bump | apply Heap.Fr.set
      all_goals first | omega | (simp <;> omega)
    rintro xo so ⟨rfl, x', h', j, rfl, hj, ⟨y2, y3, y4, y6, y7, y8, y9, y44, y45, y46, y56, y57⟩, y58, g2', hg, nrb, hrb, hf'', hnx, hu⟩
    have hjn : j = M'.length := by omega
    rw [hjn, part_all] at hg
    have hn' : h.next + 732 ≤ h'.next := by simp at hnx; omega
    have keepr : ∀ q, q < h.next → h'.raw q = h.raw q := fun q hq => by rw [hu q (by simp; omega) (by omega)]; simp [show q ≠ h.next + 420 by omega]
    have keepg : ∀ q, q < h.next → h'.get q = h.get q := fun q hq => by unfold Heap.get; rw [keepr q hq]
    have g6' := g6
    rw [← keepg b6 n6] at g6'
    have g2'' := g2
    rw [← keepg 2 (by omega)] at g2''
    have g3'' := g3
    rw [← keepg 3 (by omega)] at g3''
    have g4'' := g4
    rw [← keepg 4 (by omega)] at g4''
    have hfr'' : ∀ j, h'.raw (h'.next + j) = none := fun j => hf'' _ (by omega)
    have n2' : ∀ j, (2 = h'.next + j) = False := fun j => by simp; omega
    have n3' : ∀ j, (3 = h'.next + j) = False := fun j => by simp; omega
    have n4' : ∀ j, (4 = h'.next + j) = False := fun j => by simp; omega
    have nb2 : (2 = b6) = False := by simp; omega
    have nb3 : (3 = b6) = False := by simp; omega
    have nb4 : (4 = b6) = False := by simp; omega
    have nb : ∀ j, (b6 = h'.next + j) = False := fun j => by simp; omega
    have nb' : ∀ j, (h'.next + j = b6) = False := fun j => by simp; omega
    simp only [intsD] at y44
    rcases gy with ⟨e0, rfl⟩ | ⟨e0, mb, rfl, gm, nmb⟩
    · have hk0 : ks = [] := List.eq_nil_of_length_eq_zero (by omega)
      simp [k20l1, y2, y3, y4, y6, y9, y44, y45, y46, g6', nb, nb', hfr'', D.cells, D.one, Nat.add_assoc, zerosD, apK_some, List.range_succ, w1, room, maxLen]
      refine ⟨c - 1, by omega, _, _, i + 1, ks ++ [h.next + 420], .slr (h'.next + 102) 0 (i + 1) 1 none, rfl, by omega, by simp [y2], by simp [y3], by simp [y4], by simp [y6], by simp [y44, intsD], by simp [y45], by simp, by simp [intsD, e0], by simp [n2', nb, nb', nb2]; exact g2'', by simp [n3', nb, nb', nb3]; exact g3'', by simp [n4', nb, nb', nb4]; exact g4'', by first | (simp; done) | (simp; omega), n46, by simp [hks], ?_, fun q hq => ?_, fun j hj => ?_, .inr ⟨by omega, h'.next + 102, rfl, ?_, by first | (simp; done) | (simp; omega)⟩, ?_⟩
      · rw [List.nodup_append]
        exact ⟨hnd, by simp, fun a ha b hb => by simp at hb; subst hb; have := hkq a ha; omega⟩
      · rcases List.mem_append.1 hq with hq | hq
        · have := hkq q hq; simp; omega
        · simp at hq; subst hq; simp; omega
      · by_cases hjk : j < ks.length
        · have hq := (hkq _ (List.getElem_mem hjk)).1
          have hr' := hrow j hjk
          rw [List.getElem_append_left hjk]
          have t4 : ks[j] ≠ b6 := fun e => by rw [e, g6] at hr'; cases hr'
          skip
          simp [t4, show ks[j] ≠ h'.next + 102 by omega, show ks[j] ≠ h'.next + 101 by omega, keepg _ hq, hr']
        · have hje : j = ks.length := by simp at hj; omega
          subst hje
          simp [show h.next + 420 ≠ b6 by omega, show h.next + 420 ≠ h'.next + 102 by omega, show h.next + 420 ≠ h'.next + 101 by omega, hg, hks]
      · subst hk0; simp [rowS, show (h'.next + 102 = b6) = False by simp; omega]
      · repeat' first | exact hf'' | apply Heap.Fr.bump | apply Heap.Fr.set
        all_goals first | omega | (simp <;> omega)
    · have gm' := gm
      rw [← keepg mb nmb] at gm'
      have nm : ∀ j, (mb = h'.next + j) = False := fun j => by simp; omega
      have nm' : ∀ j, (h'.next + j = mb) = False := fun j => by simp; omega
      have nmr : (mb = h.next + 420) = False := by simp; omega
      have nmr' : (h.next + 420 = mb) = False := by simp; omega
      have nm6 : (b6 = mb) = False := by
        simp; intro e; rw [e, gm] at g6; cases g6
      have nm6' : (mb = b6) = False := by
        simp; intro e; rw [← e, gm] at g6; cases g6
      have nm2 : (2 = mb) = False := by
        simp; intro e; rw [e, gm] at g2; cases g2
      have nm3 : (3 = mb) = False := by
        simp; intro e; rw [e, gm] at g3; cases g3
      have nm4 : (4 = mb) = False := by
        simp; intro e; rw [e, gm] at g4; cases g4
      have happ := fun t hh news => appS_none (t := t) (et := 31) (sz := 1) (bytes := 24) (h := hh) (m := 1) (news := news) (k := mb) (n := i) (cs := ks.map (rowS M'.length)) (by simp [hks]) (by omega) (by unfold room; omega) (by unfold maxLen; omega)
      simp [k20l1, y2, y3, y4, y6, y9, y44, y45, y46, g6', nb, nb', hfr'', D.cells, D.one, Nat.add_assoc, zerosD, apK_some, List.range_succ, w1, gm', nm, nm', nmr, nmr', happ, nm6, nm6']
      refine ⟨c - 1, by omega, _, _, i + 1, ks ++ [h.next + 420], .slr (h'.next + 102) 0 (i + 1) 1 none, rfl, by omega, by simp [y2], by simp [y3], by simp [y4], by simp [y6], by simp [y44, intsD], by simp [y45], by simp, by simp [intsD], by simp [n2', nb, nb', nb2, nm2, nm3, nm4]; exact g2'', by simp [n3', nb, nb', nb3, nm2, nm3, nm4]; exact g3'', by simp [n4', nb, nb', nb4, nm2, nm3, nm4]; exact g4'', by first | (simp; done) | (simp; omega), n46, by simp [hks], ?_, fun q hq => ?_, fun j hj => ?_, .inr ⟨by omega, h'.next + 102, rfl, ?_, by first | (simp; done) | (simp; omega)⟩, ?_⟩
      · rw [List.nodup_append]
        exact ⟨hnd, by simp, fun a ha b hb => by simp at hb; subst hb; have := hkq a ha; omega⟩
      · rcases List.mem_append.1 hq with hq | hq
        · have := hkq q hq; simp; omega
        · simp at hq; subst hq; simp; omega
      · by_cases hjk : j < ks.length
        · have hq := (hkq _ (List.getElem_mem hjk)).1
          have hr' := hrow j hjk
          rw [List.getElem_append_left hjk]
          have t4 : ks[j] ≠ b6 := fun e => by rw [e, g6] at hr'; cases hr'
          have tm : ks[j] ≠ mb := fun e => by rw [e, gm] at hr'; cases hr'
          simp [t4, show ks[j] ≠ h'.next + 102 by omega, show ks[j] ≠ h'.next + 101 by omega, tm, keepg _ hq, hr']
        · have hje : j = ks.length := by simp at hj; omega
          subst hje
          simp [show h.next + 420 ≠ b6 by omega, show h.next + 420 ≠ h'.next + 102 by omega, show h.next + 420 ≠ h'.next + 101 by omega, nmr', hg, hks]
      · simp [rowS, show (h'.next + 102 = b6) = False by simp; omega]
      · repeat' first | exact hf'' | apply Heap.Fr.bump | apply Heap.Fr.set
        all_goals first | omega | (simp <;> omega)
  · simp [k20l1, v45, v46, hi]
    exact ⟨_, _, i, ks, d, rfl, by omega, by simp [v2], by simp [v3], by simp [v4], by simp [v6], by simp [v44], by simp [v45], by simp [v46], by simp [g6], by simp [g2], by simp [g3], by simp [g4], by simp; omega, n46, hks, hnd, fun q hq => by have := hkq q hq; simp; omega, fun j hj => by simp [hrow j hj], by
      rcases gy with e | ⟨e, k, e1, e2, e3⟩
      · exact .inl e
      · exact .inr ⟨e, k, e1, by simp [e2], by simp; omega⟩, hfr'.bump _⟩
end Go.Proofs.YtlkpikdfbodhoaaDoor
/- Grow, by the document: whether the numbers are in their range. -/
namespace Go.Proofs.YtlkpikdfbodhoaaDoor
open Go Go.Em Go.Em.Net
set_option maxRecDepth 100000
structure GwH (M' : List Int) (B : Nat → Nat → Int) (mb b6 : Nat) (ks : List Nat) (h : Heap) : Prop where
  mat : Mat M'.length B mb ks h
  g6 : h.get b6 = some (.cells 40 [intsD M', .slr mb 0 M'.length 1 none])
  g4 : h.get 4 = some (.cells 40 nil2)
  n4 : 4 < h.next
  fr : h.Fr
theorem GwH.bump {M' : List Int} {B : Nat → Nat → Int} {mb b6 : Nat} {ks : List Nat} {h : Heap} (t : GwH M' B mb b6 ks h) (z : Nat) : GwH M' B mb b6 ks (h.bump z) :=
  ⟨t.mat.bump z, by simp [t.g6], by simp [t.g4], by have := t.n4; simp; omega, t.fr.bump z⟩
def GkI (M' : List Int) (B : Nat → Nat → Int) (mb b6 : Nat) (ks : List Nat) (i kr : Nat) (k : Nat) (s : St) : Prop := ∃ (x : Env 183) (h : Heap) (q : Nat), s = ⟨x.l, h, []⟩ ∧ q + k = M'.length ∧ x.v 4 = .ptr 4 0 ∧ x.v 6 = .ptr b6 0 ∧ x.v 158 = D.int M'.length ∧ x.v 159 = D.int i ∧ x.v 166 = .slr kr 0 M'.length 1 (some M'.length) ∧ x.v 167 = D.int M'.length ∧ x.v 168 = D.int q ∧ h.get kr = some (.cells 3 (yCs M'.length (B i))) ∧ GwH M' B mb b6 ks h ∧ rowB2 M'.length B i = ((List.range M'.length).drop q).all fun j => inB2 B i j
def GkQ (M' : List Int) (B : Nat → Nat → Int) (mb b6 : Nat) (ks : List Nat) (i : Nat) (x : Ex) (s : St) : Prop := (x = .exit 6 ∧ rowB2 M'.length B i = true ∧ ∃ (x : Env 183) (h : Heap), s = ⟨x.l, h, []⟩ ∧ x.v 4 = .ptr 4 0 ∧ x.v 6 = .ptr b6 0 ∧ x.v 158 = D.int M'.length ∧ x.v 159 = D.int i ∧ GwH M' B mb b6 ks h) ∨ (x = .ret ∧ rowB2 M'.length B i = false ∧ ∃ (x : Env 183) (h : Heap), s = ⟨x.l, h, []⟩ ∧ x.v 4 = .ptr 4 0 ∧ x.v 5 = D.int 2 ∧ h.get 4 = some (.cells 40 nil2))
set_option maxHeartbeats 16000000 in
theorem gk_round {M' : List Int} (hl : M'.length ≤ 64) (B : Nat → Nat → Int) (mb b6 : Nat) (ks : List Nat) {i kr : Nat} : ∀ n, 100 ≤ n → ∀ k s, GkI M' B mb b6 ks i kr k s → Res (k20l2.ev ⟨pg, 183, none⟩ (rc pg n) s) (Rnd (GkI M' B mb b6 ks i kr) (GkQ M' B mb b6 ks i) k) := by
  rintro n hn k s ⟨x, h, q, rfl, hqk, v4, v6, v158, v159, v166, v167, v168, hg, t, ho⟩
  have g4 := t.g4
  simp only [nil2] at g4
  by_cases hq : q < M'.length
  · rw [range_drop hq, List.all_cons] at ho
    have w1 : IntKind.i64.wrap ((q : Int) + 1) = (q : Int) + 1 := wrap_i64 (by omega) (by omega)
    have y1 := fun a => yCs_len M'.length a
    have g2 := fun h' => yCs_at (y := B i) hq h'
    have i3 : q + 1 ≤ M'.length := hq
    obtain ⟨v, hv⟩ : ∃ v, B i q = v := ⟨_, rfl⟩
    have hw := fun h => call_of (h := h) (pg := pg) (f := 67) rfl (by simp) (wn67 v (-40000000) 40000000 (show 1 ≤ n by omega))
    have hib : inB2 B i q = inX v := by unfold inB2 inX; rw [hv]
    rw [hib] at ho
    by_cases hf : v = 1000000000
    · have hf' : (v != 1000000000) = false := by simp [hf]
      have hx : inX v = true := by unfold inX; simp [hf]
      rw [hx, Bool.true_and] at ho
      simp [-bne_iff_ne, -bne_eq_false_iff_eq, k20l2, v4, v166, v167, v168, hq, hg, y1, g2, hv, i3, D.cells, D.one, hf', w1]
      exact ⟨k - 1, by omega, _, _, q + 1, rfl, by omega, by simp [v4], by simp [v6], by simp [v158], by simp [v159], by simp [v166], by simp [v167], by simp, by simp [hg], by repeat' first | exact t | apply GwH.bump, ho⟩
    · have hf' : (v != 1000000000) = true := by simp [hf]
      have hf2 : (v == 1000000000) = false := by simp [hf]
      cases hi : inR v (-40000000) 40000000 with
      | true =>
        have hx : inX v = true := by unfold inX; rw [hi]; simp
        rw [hx, Bool.true_and] at ho
        rw [hi] at hw
        simp [-bne_iff_ne, k20l2, v4, v166, v167, v168, hq, hg, y1, g2, hv, i3, D.cells, D.one, hf', hw, w1]
        exact ⟨k - 1, by omega, _, _, q + 1, rfl, by omega, by simp [v4], by simp [v6], by simp [v158], by simp [v159], by simp [v166], by simp [v167], by simp, by simp [hg], by repeat' first | exact t | apply GwH.bump, ho⟩
      | false =>
        have hx : inX v = false := by unfold inX; rw [hi, hf2]; rfl
        rw [hx, Bool.false_and] at ho
        rw [hi] at hw
        simp [-bne_iff_ne, k20l2, v4, v166, v167, v168, hq, hg, y1, g2, hv, i3, D.cells, D.one, hf', hw, g4]
        exact .inr ⟨rfl, ho, _, _, rfl, by simp [v4], by simp, by simp [nil2]⟩
  · have hqM : q = M'.length := by omega
    rw [hqM, List.drop_of_length_le (by simp), List.all_nil] at ho
    simp [k20l2, v167, v168, hq]
    exact .inl ⟨rfl, ho, _, _, rfl, by simp [v4], by simp [v6], by simp [v158], by simp [v159], t.bump _⟩
def GlI (M' : List Int) (B : Nat → Nat → Int) (mb b6 : Nat) (ks : List Nat) (k : Nat) (s : St) : Prop := ∃ (x : Env 183) (h : Heap) (q : Nat), s = ⟨x.l, h, []⟩ ∧ q + k = M'.length ∧ x.v 4 = .ptr 4 0 ∧ x.v 6 = .ptr b6 0 ∧ x.v 158 = D.int M'.length ∧ x.v 159 = D.int q ∧ GwH M' B mb b6 ks h ∧ inA M'.length B = ((List.range M'.length).drop q).all fun i => rowB2 M'.length B i
def GlQ (M' : List Int) (B : Nat → Nat → Int) (mb b6 : Nat) (ks : List Nat) (x : Ex) (s : St) : Prop := (x = .exit 4 ∧ inA M'.length B = true ∧ ∃ (x : Env 183) (h : Heap), s = ⟨x.l, h, []⟩ ∧ x.v 4 = .ptr 4 0 ∧ x.v 6 = .ptr b6 0 ∧ GwH M' B mb b6 ks h) ∨ (x = .ret ∧ inA M'.length B = false ∧ ∃ (x : Env 183) (h : Heap), s = ⟨x.l, h, []⟩ ∧ x.v 4 = .ptr 4 0 ∧ x.v 5 = D.int 2 ∧ h.get 4 = some (.cells 40 nil2))
set_option maxHeartbeats 16000000 in
theorem gl_round {M' : List Int} (hl : M'.length ≤ 64) (B : Nat → Nat → Int) (mb b6 : Nat) (ks : List Nat) : ∀ n, 200 ≤ n → ∀ k s, GlI M' B mb b6 ks k s → Res (k20l3.ev ⟨pg, 183, none⟩ (rc pg n) s) (Rnd (GlI M' B mb b6 ks) (GlQ M' B mb b6 ks) k) := by
  rintro n hn k s ⟨x, h, q, rfl, hqk, v4, v6, v158, v159, t, ho⟩
  by_cases hq : q < M'.length
  · rw [range_drop hq, List.all_cons] at ho
    have w1 : IntKind.i64.wrap ((q : Int) + 1) = (q : Int) + 1 := wrap_i64 (by omega) (by omega)
    obtain ⟨rp, r1, r2, r3, r4⟩ := t.mat.at hq
    have g6 := t.g6
    have htop := t.mat.top
    have hlk := t.mat.len
    obtain ⟨L, hL⟩ : ∃ L, L = ks.map (rowS M'.length) := ⟨_, rfl⟩
    rw [← hL] at htop r1
    have hLl : L.length = M'.length := by rw [hL]; simp [hlk]
    simp only [intsD] at g6
    simp only [rowS] at r1
    have i3 : q + 1 ≤ M'.length := hq
    simp [k20l3, v4, v6, v158, v159, hq, i3, g6, htop, r1, hLl, D.cells, D.one, ev_loop]
    refine Res.after (Res.block (lp_rule 100 (GkI M' B mb b6 ks q rp) _ (gk_round hl B mb b6 ks) M'.length n _ (by omega) ⟨_, _, 0, rfl, by omega, by simp [v4], by simp [v6], by simp [v158], by simp [v159], by simp, by simp, by simp, by simp [r4], by repeat' first | exact t | apply GwH.bump, rfl⟩) (Q := fun x s => (x = .normal ∧ rowB2 M'.length B q = true ∧ ∃ (x : Env 183) (h : Heap), s = ⟨x.l, h, []⟩ ∧ x.v 4 = .ptr 4 0 ∧ x.v 6 = .ptr b6 0 ∧ x.v 158 = D.int M'.length ∧ x.v 159 = D.int q ∧ GwH M' B mb b6 ks h) ∨ (x = .ret ∧ rowB2 M'.length B q = false ∧ ∃ (x : Env 183) (h : Heap), s = ⟨x.l, h, []⟩ ∧ x.v 4 = .ptr 4 0 ∧ x.v 5 = D.int 2 ∧ h.get 4 = some (.cells 40 nil2))) ?_) ?_
    · rintro x s (⟨rfl, hb, hr⟩ | ⟨rfl, hb, hr⟩)
      · simpa [hb] using hr
      · simpa [hb] using hr
    · rintro x s (⟨rfl, hb, x, h, rfl, u4, u6, u158, u159, t'⟩ | ⟨rfl, hb, x, h, rfl, u4, u5, u6⟩)
      · rw [hb, Bool.true_and] at ho
        simp [u159, w1]
        exact ⟨k - 1, by omega, _, _, q + 1, rfl, by omega, by simp [u4], by simp [u6], by simp [u158], by simp, t'.bump _, ho⟩
      · rw [hb, Bool.false_and] at ho
        simp
        exact .inr ⟨rfl, ho, _, _, rfl, u4, u5, u6⟩
  · have hqM : q = M'.length := by omega
    rw [hqM, List.drop_of_length_le (by simp), List.all_nil] at ho
    simp [k20l3, v158, v159, hq]
    exact .inl ⟨rfl, ho, _, _, rfl, by simp [v4], by simp [v6], t.bump _⟩
end Go.Proofs.YtlkpikdfbodhoaaDoor
/- The document's shortest, for whatever numbers that stay small. -/
namespace Go.Proofs.YtlkpikdfbodhoaaDoor
open Go Go.Em Go.Em.Net
set_option maxRecDepth 100000
set_option maxHeartbeats 8000000 in
theorem srt_roundG (M : List Int) {n : Nat} (hM : M.length = n) (hn : n ≤ 64) {E : Mx} (ho : Out n E) (hB : ∀ k, k < n → (∀ q, q ≤ k → ∀ i, i < n → fw E q i i = some 0) → Bt (fw E k) ∧ Bt (comb (fw E k) k)) (mb b1 : Nat) (ks : List Nat) (oc : Option Nat) (h0 : Heap) :
    ∀ f, 200 ≤ f → ∀ c s, W2 M n E mb b1 ks oc h0 c s → Res (k66l2.ev ⟨pg, 89, none⟩ (rc pg f) s) (Rnd (W2 M n E mb b1 ks oc h0) (fun x s => (x = .exit 0 ∧ W2 M n E mb b1 ks oc h0 0 s) ∨ (x = .ret ∧ Bad n mb ks h0 s ∧ ∃ k i, k ≤ n ∧ i < n ∧ fw E k i i ≠ some 0)) c) := by
  rintro f hf c s ⟨x, h, k, rfl, hkc, v1, v8, v9, hH, hd⟩
  by_cases hk : k < n
  · obtain ⟨hb1, hb2⟩ := hB k hk hd
    have hkk := hd k (Nat.le_refl _) k hk
    have hok : Out n (fw E k) := ho.fw k (by omega)
    have w1 : IntKind.i64.wrap ((k : Int) + 1) = (k : Int) + 1 := wrap_i64 (by omega) (by omega)
    have hbx := hH.box
    simp only [intsD] at hbx
    simp [k66l2, v1, v8, v9, hk, hbx, ev_loop, hM]
    refine Res.in4 (lp_rule 100 (W1 M n k (fw E k) mb b1 ks oc _ h0) _ (stage_round M n k hM hk hn (fw E k) hkk hok hb1 hb2 (fun i hi => hd k (Nat.le_refl _) i hi) mb b1 ks oc _ h0 (by simp [v1]) (by simp)) n f _ (by omega) ⟨_, _, 0, rfl, by omega, fun q _ _ _ => rfl, by simp, by simp, ((hH.bump _).bump _).bump _, fun q hq => absurd hq (Nat.not_lt_zero _)⟩) ?_
    rintro xo so (⟨rfl, x', h', i, rfl, hi, sm, v14, v15, hH', hz⟩ | ⟨rfl, ⟨x', h', rfl, v2, o, fr, mt⟩, i, hi, hne⟩)
    · have hin : i = n := by omega
      subst hin
      have y1 : x'.v 1 = .ptr b1 0 := by rw [sm 1 (by omega) (by omega) (by omega)]; simp [v1]
      have y8 : x'.v 8 = D.int i := by rw [sm 8 (by omega) (by omega) (by omega)]; simp [v8]
      have y9 : x'.v 9 = D.int k := by rw [sm 9 (by omega) (by omega) (by omega)]; simp [v9]
      have hst : stageT i k (fw E k) i = fw E (k + 1) := stage_full hkk hok hk
      rw [hst] at hH'
      simp [y9, w1]
      refine ⟨c - 1, by omega, _, _, k + 1, rfl, by omega, by simp [y1], by simp [y8], by simp, hH'.bump _, fun q hq a ha => ?_⟩
      rcases Nat.lt_or_eq_of_le hq with h1 | h1
      · exact hd q (by omega) a ha
      · subst h1; exact hz a ha
    · simp
      exact ⟨⟨x', h', rfl, v2, o, fr, mt⟩, k + 1, by omega, i, hi, hne⟩
  · simp [k66l2, v8, v9, hk]
    exact ⟨_, _, k, rfl, by omega, by simp [v1], by simp [v8], by simp [v9], hH.bump _, hd⟩
def SrtG (n : Nat) (E : Mx) (mb : Nat) (ks : List Nat) (h : Heap) (d : D) (h' : Heap) : Prop := Only ks h h' ∧ h'.Fr ∧ ((d = D.bool true ∧ Mat n (encM (fw E n)) mb ks h' ∧ ∀ q, q ≤ n → ∀ i, i < n → fw E q i i = some 0) ∨ (d = D.bool false ∧ (∃ B, Mat n B mb ks h') ∧ ∃ k i, k ≤ n ∧ i < n ∧ fw E k i i ≠ some 0))
set_option maxHeartbeats 8000000 in
theorem srt_shG (M : List Int) {n : Nat} (hM : M.length = n) (hn : n ≤ 64) {E : Mx} (hd0 : ∀ i, i < n → E i i = some 0) (ho : Out n E) (hB : ∀ k, k < n → (∀ q, q ≤ k → ∀ i, i < n → fw E q i i = some 0) → Bt (fw E k) ∧ Bt (comb (fw E k) k)) {mb : Nat} {ks : List Nat} (oc : Option Nat) {h : Heap} (hm : Mat n (encM E) mb ks h) (hf : h.Fr) {f : Nat} (hfl : 400 ≤ f) :
    ∃ d h', (rc pg f).fn 66 [.agg [intsD M, .slr mb 0 n 1 oc]] h = some (.ret d, h') ∧ SrtG n E mb ks h d h' := by
  obtain ⟨m, rfl, e⟩ := fn_body (pg := pg) (f := 66) (args := [.agg [intsD M, .slr mb 0 n 1 oc]]) (h := h) (show 0 < f by omega) rfl rfl
  rw [e]
  have hfr : ∀ j, h.raw (h.next + j) = none := fun j => hf _ (by omega)
  have hbk : h.next + 1 ∉ ks := fun hk => by have := (hm.lt _ hk).1; omega
  have hmlt := hm.mlt
  have o1 : ∀ a b c d (e : Option Nat), D.one (.slr a b c d e) = true := fun _ _ _ _ _ => rfl
  simp [k66, Env.v_ini, hfr, D.cells, D.one, intsD, o1, Nat.add_assoc, ev_loop, hM]
  have hS0 : SrH M n (encM (fw E 0)) mb (h.next + 1) ks oc h (((h.bump 89).set (h.next + 1) (some (.cells 40 [intsD M, .slr mb 0 n 1 oc]))).bump 89) := by
    have hne : ∀ q, q ∈ ks → q ≠ h.next + 1 := fun q hq e => hbk (by rw [← e]; exact hq)
    refine SrH.bump ⟨⟨hm.len, by simp [show mb ≠ h.next + 1 by omega, hm.top], hm.nd, fun q hq => ⟨by have := (hm.lt q hq).1; simp; omega, (hm.lt q hq).2⟩, fun j hj => by simp [hne _ (List.getElem_mem hj)]; exact hm.row j hj, by simp; omega⟩, ⟨by simp, fun q h1 h2 => by simp [show q ≠ h.next + 1 by omega]⟩, by simp, by simp, hbk, ?_⟩ 89
    repeat' first | exact hf | apply Heap.Fr.bump | apply Heap.Fr.set
    all_goals first | omega | (simp <;> omega)
  refine Res.tailG (F := fun d : D => d) (C := SrtG n E mb ks h) (lp_rule 200 (W2 M n E mb (h.next + 1) ks oc h) _ (srt_roundG M hM hn ho hB mb (h.next + 1) ks oc h) n m _ (by omega) ⟨_, _, 0, rfl, by omega, by simp, by simp, by simp, by simpa [intsD] using hS0, fun q hq i hi => by
    obtain rfl : q = 0 := by omega
    exact hd0 i hi⟩) ?_
  rintro x s (⟨rfl, x, h', k, rfl, hk, v1, v8, v9, hH, hd⟩ | ⟨rfl, ⟨x, h', rfl, v2, o, fr, mt⟩, hne⟩)
  · have hkn : k = n := by omega
    subst hkn
    have hH' := hH.bump 89
    exact ⟨D.bool true, _, by simp, hH'.only, hH'.fr, .inl ⟨rfl, hH'.mat, hd⟩⟩
  · exact ⟨D.bool false, h', by simp [v2], o, fr, .inr ⟨rfl, mt, hne⟩⟩
end Go.Proofs.YtlkpikdfbodhoaaDoor
