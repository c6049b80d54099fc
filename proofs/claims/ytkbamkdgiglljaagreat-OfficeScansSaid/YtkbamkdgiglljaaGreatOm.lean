/- A frame of bytes, by the program and by the document. -/
import Derived.Test.YtkbamkdgiglljaaGreatOl
import Derived.Test.YtkbamkdgiglljaaGreatOf
namespace Go.Proofs.YtkbamkdgiglljaaGreat
open Go Go.Em
set_option maxRecDepth 100000
def frL (b : List UInt8) : List UInt8 := fourL b.length ++ (fourL (sumF b) ++ b)
set_option maxHeartbeats 4000000 in
theorem framed_run {n : Nat} (hn : 10000 ≤ n) (b : List UInt8) (h0 : 0 < b.length) (hb : b.length ≤ 9000) : pureCall (rc pg n) 37 [bD b] = some (.ret (bD (frL b))) := by
  obtain ⟨m, rfl, e⟩ := body (pg := pg) (f := 37) (args := [bD b]) (show 0 < n by omega) rfl rfl
  rw [e]
  obtain ⟨N, hN⟩ : ∃ N, N = 8 + b.length := ⟨_, rfl⟩
  have w1 : IntKind.i64.wrap (8 + (b.length : Int)) = (N : Int) := by rw [wrap_i64 (by omega) (by omega)]; omega
  have hr : (N : Int) ≤ (room : Int) := by unfold room; omega
  obtain ⟨L, hL, hLl⟩ : ∃ L, L = zerosD [Value.int .u8 0] 1 N ∧ L.length = N := ⟨_, rfl, by rw [zeros_rep]; simp⟩
  have b0 : (0 : Int) ≤ N := by omega
  have wl := wrap_u32 (a := b.length) (by omega)
  have l4 : (L.take 4).length = 4 := by rw [List.length_take]; omega
  have hs := sum_run (n := m) b (by omega) (by omega)
  have s16 : pg.sh 16 = false := rfl
  have can := bL_can b
  obtain ⟨H1, hH1⟩ : ∃ H : Heap, H = ((((Heap.empty.bump 23).bump 23).set 30 (some (.cells 5 L))).bump 23) := ⟨_, rfl⟩
  have gH1 : H1.get 30 = some (.cells 5 ([] ++ (L.take 4 ++ L.drop 4))) := by rw [hH1]; simp
  obtain ⟨h1, c1, g1, r1, n1⟩ := putN_sh (o := 0) (cap := some N) (N := N) (a := b.length) (A := []) rfl (show 4 ≤ N by omega) l4 gH1 (n := m) (by omega)
  have N4 : (4 : Int) ≤ N := by omega
  have N4' : ¬ (4 : Int) = N := by omega
  have N8 : (8 : Int) ≤ N := by omega
  have N8' : ¬ (8 : Int) = N := by omega
  have gH2 : (h1.bump 23).get 30 = some (.cells 5 (fourN b.length ++ ((L.drop 4).take 4 ++ L.drop 8))) := by
    have : L.drop 4 = (L.drop 4).take 4 ++ L.drop 8 := by
      have := (List.take_append_drop 4 (L.drop 4)).symm
      rw [List.drop_drop] at this
      exact this
    simp [g1, ← this]
  have l44 : ((L.drop 4).take 4).length = 4 := by simp; omega
  obtain ⟨h2, c2, g2, r2, n2⟩ := putN_sh (o := 4) (cap := some (N - 4)) (N := N - 4) (a := sumF b) (A := fourN b.length) rfl (show 4 ≤ N - 4 by omega) l44 gH2 (n := m) (by omega)
  obtain ⟨C, hC⟩ : ∃ C, C = fourN b.length ++ (fourN (sumF b) ++ L.drop 8) := ⟨_, rfl⟩
  have g1 : h1.get 30 = some (.cells 5 (fourN b.length ++ L.drop 4)) := by rw [g1]; rfl
  rw [← hC] at g2
  have lC : C.length = N := by rw [hC]; simp [fourN]; omega
  have t8 : C.take 8 = fourN b.length ++ fourN (sumF b) := by rw [hC, ← List.append_assoc]; exact List.take_left' rfl
  have hm : N - 8 = b.length := by omega
  have le8 : 8 + b.length ≤ N := by omega
  have tt : (bL b).take b.length = bL b := List.take_of_length_le (by rw [bL_len]; exact Nat.le_refl _)
  have dd : C.drop (8 + b.length) = [] := List.drop_eq_nil_of_le (by omega)
  simp only [bD] at hs ⊢
  simp [-out1, -src_sl, k37, Env.v_ini, bL_len, w1, hr, b0, ← hL, wl, ← hH1, c1]
  simp [-out1, -src_sl, Env.v_ini, g1, N4, N4', dcore_f, s16, can, hs, dcore_c, sliceR, upTo, mxOk, mxCap, c2]
  simp [-out1, -src_sl, Env.v_ini, g2, N8, N8', hm, sliceR, upTo, mxOk, mxCap, src_bL, bL_one, lC, le8, t8, tt, dd]
  refine out_b (ty := 5) (l := frL b) ?_ ?_
  · simp [frL, bL_app, fourN_eq]
  · simp [frL, fourL]; omega
def frmL (x : Ent) : List UInt8 := if okF x = true then frL (encL x) else []
def frmR (x : Ent) : D := .tup [bD (frmL x), erI (okF x) 80]
theorem enc_len {x : Ent} (h : okF x = true) : 0 < (encL x).length ∧ (encL x).length ≤ 9000 := by
  obtain ⟨_, _, _, _, _, _, _, _, _, _, _, _, _, _, _, _, h9⟩ := ok_nat h
  unfold encL
  rw [if_pos h]
  simp [e20x, e20, fourL]
  omega
theorem frame_run {n : Nat} (hn : 20000 ≤ n) (x : Ent) : pureCall (rc pg n) 9 [entD x] = some (.ret (frmR x)) := by
  obtain ⟨m, rfl, e⟩ := body (pg := pg) (f := 9) (args := [entD x]) (show 0 < n by omega) rfl rfl
  rw [e]
  have c := fun h => call_of (h := h) (pg := pg) (f := 7) rfl (entD_can x) (encode_run (n := m) (by omega) x)
  unfold encR at c
  unfold frmR frmL
  unfold erI at c ⊢
  cases hok : okF x with
  | true =>
    have cf := fun h => call_of (h := h) (pg := pg) (f := 37) rfl (bD_can (encL x)) (framed_run (n := m) (by omega) (encL x) (enc_len hok).1 (enc_len hok).2)
    rw [hok] at c
    simp only [if_true, bD, entD, entL, strD] at c cf ⊢
    have can := bL_can (frL (encL x))
    have ec : ∀ h : Heap, each (frz h 22) (bL (frL (encL x))) = some (bL (frL (encL x)), []) := fun h => each_canon h 21 _ can
    simp [k9, Env.v_ini, c, cf, can, ec, D.cells, D.one, Value.oneCell']
  | false =>
    rw [hok] at c
    simp only [Bool.false_eq_true, if_false, bD, entD, entL, strD] at c ⊢
    simp [k9, Env.v_ini, c, bL, D.cells, D.one, Value.oneCell']
end Go.Proofs.YtkbamkdgiglljaaGreat
