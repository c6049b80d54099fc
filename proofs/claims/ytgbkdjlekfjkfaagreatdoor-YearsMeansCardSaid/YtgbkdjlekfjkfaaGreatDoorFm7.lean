/- Series: the peak, by the program and by the document; lists of fractions compared. -/
import Derived.Test.YtgbkdjlekfjkfaaGreatDoorFm6
namespace Go.Proofs.YtgbkdjlekfjkfaaGreatDoor
open Go Go.Em
set_option maxRecDepth 100000
def movE (l : List Int) (W : Int) : Int := if serF l = true then if inR W 1 l.length = true then 0 else 63 else 62
def movL (l : List Int) (W : Int) : List Pr := if movE l W = 0 then movP l W.toNat (l.length - W.toNat + 1) else []
theorem mov_is (l : List Int) (W : Int) : movR l W = .tup [frsD (movL l W), D.int (movE l W)] := by
  unfold movR movL movE
  split
  · split <;> rfl
  · rfl
structure Mok (L : List Pr) : Prop where
  len : L.length ≤ 400
  one : 1 ≤ L.length
  ok : ∀ i, i < L.length → okP (gt L i)
theorem mov_ok {l : List Int} {W : Int} (h : movE l W = 0) : Mok (movL l W) := by
  have h' := h
  unfold movE at h
  split at h
  · next hs =>
    split at h
    · next hi =>
      obtain ⟨ok, h1⟩ := ser_ok hs
      have hl1 := ok.1
      have hWr : 1 ≤ W ∧ W ≤ l.length := by unfold inR at hi; simpa using hi
      have hL : movL l W = movP l W.toNat (l.length - W.toNat + 1) := by unfold movL; rw [if_pos h']
      rw [hL]
      exact ⟨by rw [mov_len]; omega, by rw [mov_len]; omega, ok_mov ok (by omega) (by omega)⟩
    · omega
  · omega
theorem mov_len' (l : List Int) (W : Int) : (movL l W).length ≤ 400 := by
  by_cases h : movE l W = 0
  · exact (mov_ok h).len
  · unfold movL; rw [if_neg h]; simp
def pkR (l : List Int) (W : Int) : D := if movE l W = 0 then .tup [D.int (bst (movL l W) ((movL l W).length - 1)), frD (gt (movL l W) (bst (movL l W) ((movL l W).length - 1))).1 (gt (movL l W) (bst (movL l W) ((movL l W).length - 1))).2, D.int 0] else .tup [D.int 0, frD 0 0, D.int (movE l W)]
set_option maxHeartbeats 4000000 in
theorem peak_run (l : List Int) (W : Int) {n : Nat} (hn : 1000005000 ≤ n) : pureCall (rc pg n) 35 [intsD l, D.int W] = some (.ret (pkR l W)) := by
  obtain ⟨m, rfl, e⟩ := body (pg := pg) (f := 35) (args := [intsD l, D.int W]) (show 0 < n by omega) rfl rfl
  rw [e]
  have c := fun h => call_of (h := h) (pg := pg) (f := 33) rfl (by simp [intsD, ints_canonL]) (moving_run l W (n := m) (by omega))
  rw [mov_is] at c
  simp only [intsD] at c
  by_cases h0 : movE l W = 0
  · have hm := mov_ok h0
    unfold pkR
    rw [if_pos h0]
    rw [h0] at c
    obtain ⟨L, hL⟩ : ∃ L, L = movL l W := ⟨_, rfl⟩
    rw [← hL] at c hm ⊢
    have h1 := hm.one
    have hb := bst_le L (L.length - 1)
    have c2 := fun h => call_of (h := h) (pg := pg) (f := 96) rfl (by simp [frsD, frs_canonL]) (max_run L hm.len hm.one (n := m) (by omega))
    have c3 := index_run L hm.len (bst L (L.length - 1)) (by omega) (bst_first hm.ok _ (by omega)) (n := m) (by omega)
    obtain ⟨b, hbb⟩ : ∃ b, b = bst L (L.length - 1) := ⟨_, rfl⟩
    rw [← hbb] at c2 c3 ⊢
    have s97 : pg.sh 97 = false := rfl
    have hcan : D.canonL [frsD L, frD (gt L b).1 (gt L b).2] = true := by simp [frsD, frs_canonL, fr_canon]
    simp only [frsD, frD] at c c2 c3 hcan ⊢
    simp [k35, Env.v_ini, intsD, c, c2, c3, D.cells, D.one, dcore_f, s97, hcan]
  · unfold pkR
    rw [if_neg h0]
    have hne : (movE l W != 0) = true := by rw [bne_iff_ne]; exact h0
    simp only [frsD, frD] at c ⊢
    simp [k35, Env.v_ini, intsD, c, D.cells, D.one, hne]
def PkI (L : List Pr) (k : Nat) (s : St) : Prop := ∃ (x : Env 43) (h : Heap) (i : Nat), s = ⟨x.l, h, []⟩ ∧ 1 ≤ i ∧ i + k = L.length ∧ x.v 7 = frsD L ∧ x.v 5 = .ptr 5 0 ∧ x.v 10 = D.int i ∧ x.v 9 = D.int (bst L (i - 1)) ∧ h.get 5 = some (.cells 48 [D.int 0, D.int 0])
set_option maxHeartbeats 4000000 in
theorem pk_round (L : List Pr) (hL : L.length ≤ 400) : ∀ n, 100 ≤ n → ∀ k s, PkI L k s → Res (k36l0.ev ⟨pg, 43, none⟩ (rc pg n) s) (Rnd (PkI L) (fun x s => x = .exit 0 ∧ PkI L 0 s) k) := by
  rintro n hn k s ⟨x, h, i, rfl, i1, hik, v7, v5, v10, v9, g5⟩
  simp only [frsD] at v7
  by_cases hi : i < L.length
  · obtain ⟨v, hv⟩ : ∃ v, L[i] = v := ⟨_, rfl⟩
    have hgt : gt L i = v := by rw [gt_eq hi, hv]
    have hb : bst L i = if 0 < cm (gt L i) (gt L (bst L (i - 1))) then i else bst L (i - 1) := by
      obtain ⟨j, rfl⟩ : ∃ j, i = j + 1 := ⟨i - 1, by omega⟩
      rfl
    have hbl := bst_le L (i - 1)
    obtain ⟨b, hbb⟩ : ∃ b, b = bst L (i - 1) := ⟨_, rfl⟩
    rw [← hbb] at hb hbl v9
    have hbL : b < L.length := by omega
    obtain ⟨B, hB⟩ : ∃ B, L[b] = B := ⟨_, rfl⟩
    have hgB : gt L b = B := by rw [gt_eq hbL, hB]
    rw [hgt, hgB] at hb
    have w1 : IntKind.i64.wrap ((i : Int) + 1) = (i : Int) + 1 := wrap_i64 (by omega) (by omega)
    have c := rcmp_run v.1 v.2 B.1 B.2 (f := n) (by omega)
    have hcm : cmR v.1 v.2 B.1 B.2 = cm v B := rfl
    have s29 : pg.sh 29 = false := rfl
    have hcan : D.canonL [frD v.1 v.2, frD B.1 B.2] = true := by simp [fr_canon]
    rw [hcm] at c
    simp only [frD] at c hcan
    by_cases hc : 0 < cm v B
    · rw [if_pos hc] at hb
      simp [k36l0, v7, v10, v9, hi, hv, hbL, hB, D.cells, c, w1, frD, hc, dcore_f, s29, hcan]
      exact ⟨k - 1, by omega, _, _, i + 1, rfl, by omega, by omega, by simp [v7, frsD, frD], by simp [v5], by simp, by simp [hb], by simp [g5]⟩
    · rw [if_neg hc] at hb
      simp [k36l0, v7, v10, v9, hi, hv, hbL, hB, D.cells, c, w1, frD, hc, dcore_f, s29, hcan]
      exact ⟨k - 1, by omega, _, _, i + 1, rfl, by omega, by omega, by simp [v7, frsD, frD], by simp [v5], by simp, by simp [hb, v9], by simp [g5]⟩
  · simp [k36l0, v7, v10, hi]
    exact ⟨_, _, i, rfl, i1, by omega, by simp [v7, frsD], by simp [v5], by simp [v10], by simp [v9], by simp [g5]⟩
set_option maxHeartbeats 4000000 in
theorem rpeak_run (l : List Int) (hl : l.length ≤ 20000000000000) (W : Int) {n : Nat} (hn : l.length + 1000005000 ≤ n) : pureCall (rc pg n) 36 [intsD l, D.int W] = some (.ret (pkR l W)) := by
  obtain ⟨m, rfl, e⟩ := body (pg := pg) (f := 36) (args := [intsD l, D.int W]) (show 0 < n by omega) rfl rfl
  rw [e]
  have c := fun h => call_of (h := h) (pg := pg) (f := 34) rfl (by simp [intsD, ints_canonL]) (rmoving_run l hl W (n := m) (by omega))
  rw [mov_is] at c
  simp only [intsD] at c
  by_cases h0 : movE l W = 0
  · have hm := mov_ok h0
    unfold pkR
    rw [if_pos h0]
    rw [h0] at c
    obtain ⟨L, hL⟩ : ∃ L, L = movL l W := ⟨_, rfl⟩
    rw [← hL] at c hm ⊢
    have h1 := hm.one
    have hlen := hm.len
    have hb := bst_le L (L.length - 1)
    have hbL : bst L (L.length - 1) < L.length := by omega
    simp only [frsD, frD] at c ⊢
    simp [k36, Env.v_ini, intsD, c, ev_loop]
    refine Res.endsAfter (lp_rule 100 (PkI L) _ (pk_round L hm.len) (L.length - 1) m _ (by omega) ⟨_, _, 1, rfl, by omega, by omega, by simp [frsD, frD], by simp, by simp, by simp [bst], by simp⟩) ?_
    rintro x s ⟨rfl, x, h, i, rfl, i1, hi, v7, v5, v10, v9, g5⟩
    obtain rfl : i = L.length := by omega
    obtain ⟨B, hB⟩ : ∃ B, L[bst L (L.length - 1)] = B := ⟨_, rfl⟩
    have hgB : gt L (bst L (L.length - 1)) = B := by rw [gt_eq hbL, hB]
    rw [hgB]
    obtain ⟨b, hbb⟩ : ∃ b, b = bst L (L.length - 1) := ⟨_, rfl⟩
    simp only [← hbb] at hbL hB v9 ⊢
    simp only [frsD, frD] at v7
    simp [v7, v5, v9, hbL, hB, g5, D.cells, D.one]
  · unfold pkR
    rw [if_neg h0]
    have hne : (movE l W != 0) = true := by rw [bne_iff_ne]; exact h0
    simp only [frsD, frD] at c ⊢
    simp [k36, Env.v_ini, intsD, c, D.cells, D.one, hne]
def SfI (L : List Pr) (k : Nat) (s : St) : Prop := ∃ (x : Env 26) (h : Heap) (i : Nat), s = ⟨x.l, h, []⟩ ∧ i + k = L.length ∧ x.v 0 = frsD L ∧ x.v 1 = frsD L ∧ x.v 5 = D.int i
set_option maxHeartbeats 4000000 in
theorem sf_round (L : List Pr) (hL : L.length ≤ 400) : ∀ n, 100 ≤ n → ∀ k s, SfI L k s → Res (k37l0.ev ⟨pg, 26, none⟩ (rc pg n) s) (Rnd (SfI L) (fun x s => x = .exit 0 ∧ SfI L 0 s) k) := by
  rintro n hn k s ⟨x, h, i, rfl, hik, v0, v1, v5⟩
  simp only [frsD] at v0 v1
  by_cases hi : i < L.length
  · obtain ⟨v, hv⟩ : ∃ v, L[i] = v := ⟨_, rfl⟩
    have w1 : IntKind.i64.wrap ((i : Int) + 1) = (i : Int) + 1 := wrap_i64 (by omega) (by omega)
    simp [k37l0, v0, v1, v5, hi, hv, D.cells, w1, frD]
    exact ⟨k - 1, by omega, _, _, i + 1, rfl, by omega, by simp [v0, frsD, frD], by simp [v1, frsD, frD], by simp⟩
  · simp [k37l0, v0, v5, hi]
    exact ⟨_, _, i, rfl, by omega, by simp [v0, frsD], by simp [v1, frsD], by simp [v5]⟩
set_option maxHeartbeats 4000000 in
theorem same_run (L : List Pr) (hL : L.length ≤ 400) {n : Nat} (hn : 1000 ≤ n) : pureCall (rc pg n) 37 [frsD L, frsD L] = some (.ret (D.bool true)) := by
  obtain ⟨m, rfl, e⟩ := body (pg := pg) (f := 37) (args := [frsD L, frsD L]) (show 0 < n by omega) rfl rfl
  rw [e]
  simp [k37, Env.v_ini, frsD, ev_loop, frD]
  refine Res.endsAfter (lp_rule 100 (SfI L) _ (sf_round L hL) L.length m _ (by omega) ⟨_, _, 0, rfl, by omega, by simp [Env.v_ini, frsD, frD], by simp [Env.v_ini, frsD, frD], by simp⟩) ?_
  rintro x s ⟨rfl, x, h, i, rfl, hi, v0, v1, v5⟩
  simp
set_option maxHeartbeats 8000000 in
theorem means_law (l : List Int) (hl : l.length ≤ 20000000000000) (W : Int) {f : Nat} (hf : l.length + 1000010000 ≤ f) : pureCall (rc pg f) 7 [intsD l, D.int W] = some (.ret (.val (.bool true))) := by
  obtain ⟨m, rfl, e⟩ := body (pg := pg) (f := 7) (args := [intsD l, D.int W]) (show 0 < f by omega) rfl rfl
  rw [e]
  have hs := fun h => @sane_call m (by omega) h
  have c1 := fun h => call_of (h := h) (pg := pg) (f := 31) rfl (ints_can l) (mean_run l (n := m) (by omega))
  have c2 := fun h => call_of (h := h) (pg := pg) (f := 32) rfl (ints_can l) (rmeanE_run l hl (n := m) (by omega))
  have c3 := fun h => call_of (h := h) (pg := pg) (f := 33) rfl (by simp [intsD, ints_canonL]) (moving_run l W (n := m) (by omega))
  have c4 := fun h => call_of (h := h) (pg := pg) (f := 34) rfl (by simp [intsD, ints_canonL]) (rmoving_run l hl W (n := m) (by omega))
  have c5 := fun h => call_of (h := h) (pg := pg) (f := 35) rfl (by simp [intsD, ints_canonL]) (peak_run l W (n := m) (by omega))
  have c6 := fun h => call_of (h := h) (pg := pg) (f := 36) rfl (by simp [intsD, ints_canonL]) (rpeak_run l hl W (n := m) (by omega))
  rw [mov_is] at c3 c4
  have hmr : ∃ p q z, menR l = .tup [.agg [D.int p, D.int q], D.int z] := by
    unfold menR menP
    split
    · obtain ⟨u, v, h1⟩ := mkP_agg l.sum l.length
      rw [h1]; exact ⟨_, _, _, rfl⟩
    · exact ⟨_, _, _, rfl⟩
  obtain ⟨p, q, z, hmr⟩ := hmr
  rw [hmr] at c1 c2
  have hpr : ∃ b s t y, pkR l W = .tup [D.int b, .agg [D.int s, D.int t], D.int y] := by
    unfold pkR
    split <;> exact ⟨_, _, _, _, rfl⟩
  obtain ⟨b, s, t, y, hpr⟩ := hpr
  rw [hpr] at c5 c6
  obtain ⟨ez, hez⟩ : ∃ ez, ez = movE l W := ⟨_, rfl⟩
  have hlen := mov_len' l W
  obtain ⟨L, hL⟩ : ∃ L, L = movL l W := ⟨_, rfl⟩
  rw [← hez, ← hL] at c3 c4
  rw [← hL] at hlen
  have c7 := fun h => call_of (h := h) (pg := pg) (f := 37) rfl (by simp [frsD, frs_canonL]) (same_run L hlen (n := m) (by omega))
  simp only [intsD, frsD] at c1 c2 c3 c4 c5 c6 c7
  simp [k7, Env.v_ini, intsD, c1, c2, c3, c4, c5, c6, c7, D.cells, D.one, hs]
end Go.Proofs.YtgbkdjlekfjkfaaGreatDoor
