/- Series: the peak, by the program and by the document; lists of fractions compared. -/
import Derived.Test.YtngjpeoloaeneaaGreatDoorFm6
namespace Go.Proofs.YtngjpeoloaeneaaGreatDoor
open Go Go.Em
set_option maxRecDepth 100000
def movE (l : List Int) (W : Int) : Int := if serF l = true then if inR W 1 l.length = true then 0 else 63 else 62
def movL (l : List Int) (W : Int) : List Pr := if movE l W = 0 then movP l W.toNat (l.length - W.toNat + 1) else []
theorem mov_is (l : List Int) (W : Int) : movR l W = .tup [frsD (movL l W), D.int (movE l W)] := by
  unfold movR movL movE
  split
  · split <;> rfl
  · rfl
structure Mok (L : List Pr) : Prop where
  len : L.length ≤ 400
  one : 1 ≤ L.length
  ok : ∀ i, i < L.length → okP (gt L i)
theorem mov_ok {l : List Int} {W : Int} (h : movE l W = 0) : Mok (movL l W) := by
  have h' := h
  unfold movE at h
  split at h
  · next hs =>
    split at h
    · next hi =>
      obtain ⟨ok, h1⟩ := ser_ok hs
      have hl1 := ok.1
      have hWr : 1 ≤ W ∧ W ≤ l.length := by unfold inR at hi; simpa using hi
      have hL : movL l W = movP l W.toNat (l.length - W.toNat + 1) := by unfold movL; rw [if_pos h']
      rw [hL]
      exact ⟨by rw [mov_len]; omega, by rw [mov_len]; omega, ok_mov ok (by omega) (by omega)⟩
    · omega
  · omega
theorem mov_len' (l : List Int) (W : Int) : (movL l W).length ≤ 400 := by
  by_cases h : movE l W = 0
  · exact (mov_ok h).len
  · unfold movL; rw [if_neg h]; simp
def pkR (l : List Int) (W : Int) : D := if movE l W = 0 then .tup [D.int (bst (movL l W) ((movL l W).length - 1)), frD (gt (movL l W) (bst (movL l W) ((movL l W).length - 1))).1 (gt (movL l W) (bst (movL l W) ((movL l W).length - 1))).2, D.int 0] else .tup [D.int 0, frD 0 0, D.int (movE l W)]
set_option maxHeartbeats 4000000 in
theorem peak_run (l : List Int) (W : Int) {n : Nat} (hn : 1000005000 ≤ n) : pureCall (rc pg n) 36 [intsD l, D.int W] = some (.ret (pkR l W)) := by
  obtain ⟨m, rfl, e⟩ := body (pg := pg) (f := 36) (args := [intsD l, D.int W]) (show 0 < n by omega) rfl rfl
  rw [e]
  have c := fun h => call_of (h := h) (pg := pg) (f := 34) rfl (by simp [intsD, ints_canonL]) (moving_run l W (n := m) (by omega))
  rw [mov_is] at c
  simp only [intsD] at c
  by_cases h0 : movE l W = 0
  · have hm := mov_ok h0
    unfold pkR
    rw [if_pos h0]
    rw [h0] at c
    obtain ⟨L, hL⟩ : ∃ L, L = movL l W := ⟨_, rfl⟩
    rw [← hL] at c hm ⊢
    have h1 := hm.one
    have hb := bst_le L (L.length - 1)
    have c2 := fun h => call_of (h := h) (pg := pg) (f := 63) rfl (by simp [frsD, frs_canonL]) (max_run L hm.len hm.one (n := m) (by omega))
    have c3 := index_run L hm.len (bst L (L.length - 1)) (by omega) (bst_first hm.ok _ (by omega)) (n := m) (by omega)
    obtain ⟨b, hbb⟩ : ∃ b, b = bst L (L.length - 1) := ⟨_, rfl⟩
    rw [← hbb] at c2 c3 ⊢
    have s97 : pg.sh 64 = false := rfl
    have hcan : D.canonL [frsD L, frD (gt L b).1 (gt L b).2] = true := by simp [frsD, frs_canonL, fr_canon]
    simp only [frsD, frD] at c c2 c3 hcan ⊢
    simp [k36, Env.v_ini, intsD, c, c2, c3, D.cells, D.one, dcore_f, s97, hcan]
  · unfold pkR
    rw [if_neg h0]
    have hne : (movE l W != 0) = true := by rw [bne_iff_ne]; exact h0
    simp only [frsD, frD] at c ⊢
    simp [k36, Env.v_ini, intsD, c, D.cells, D.one, hne]
end Go.Proofs.YtngjpeoloaeneaaGreatDoor
