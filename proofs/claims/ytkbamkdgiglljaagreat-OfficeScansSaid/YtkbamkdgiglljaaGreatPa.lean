/- The frame at the beginning of bytes, by the program. -/
import Derived.Test.YtkbamkdgiglljaaGreatOm
import Derived.Test.YtkbamkdgiglljaaGreatOi
namespace Go.Proofs.YtkbamkdgiglljaaGreat
open Go Go.Em
set_option maxRecDepth 100000
def bod (l : List UInt8) : List UInt8 := (l.drop 8).take (numF l)
def whoF (l : List UInt8) : Bool := ((decide (8 ≤ l.length) && decide (8 + numF l ≤ l.length)) && decide (sumF (bod l) = numF (l.drop 4))) && decF (bod l)
def whoR (l : List UInt8) : D := .tup [if whoF l = true then entD (decX (bod l)) else entD zeroE, D.int (if whoF l = true then (8 + numF l : Nat) else 0)]
theorem bod_len {l : List UInt8} (h : 8 + numF l ≤ l.length) : (bod l).length = numF l := by unfold bod; simp; omega
set_option maxHeartbeats 8000000 in
theorem whole_run {n : Nat} (l : List UInt8) (hl : l.length ≤ 9000000000000000) (hn : l.length + 20000 ≤ n) : pureCall (rc pg n) 55 [bD l] = some (.ret (whoR l)) := by
  obtain ⟨m, rfl, e⟩ := body (pg := pg) (f := 55) (args := [bD l]) (show 0 < n by omega) rfl rfl
  rw [e]
  have hz : entD zeroE = .agg [D.int 0, D.int 0, D.int 0, D.int 0, D.int 0, D.int 0, D.int 0, .val (.string ⟨#[]⟩)] := rfl
  unfold whoR whoF
  rw [hz]
  by_cases h8 : 8 ≤ l.length
  · have i8 : ¬ (l.length : Int) < 8 := by omega
    have i8' : (8 : Int) ≤ l.length := by omega
    have cn := fun h => call_of (h := h) (pg := pg) (f := 40) rfl (bD_can l) (number_run (n := m) (by omega) l (by omega))
    have hlt := numF_lt l (by omega)
    have bl := @bod_len l
    have cs := sum_run (n := m) (bod l)
    have c4 := number_run (n := m) (by omega) (l.drop 4) (by simp; omega)
    have cd := fun h => call_of (h := h) (pg := pg) (f := 11) rfl (bD_can (bod l)) (decode_run (n := m) (by omega) (bod l))
    have canb := bL_can (bod l)
    have can4 := bL_can (l.drop 4)
    have hbd : (bL (l.drop 8)).take (numF l) = bL (bod l) := by rw [bL_take]; rfl
    have s16 : pg.sh 16 = false := rfl
    have s40 : pg.sh 40 = false := rfl
    have d8 : decide (8 ≤ l.length) = true := decide_eq_true h8
    have w8 : IntKind.i64.wrap ((l.length : Int) - 8) = (l.length : Int) - 8 := wrap_i64 (by omega) (by omega)
    have tk4 : (bL (l.drop 4)).take (l.length - 4) = bL (l.drop 4) := List.take_of_length_le (by rw [bL_len, List.length_drop]; exact Nat.le_refl _)
    have i4 : (4 : Int) ≤ l.length := by omega
    rw [d8]
    obtain ⟨a, ha⟩ : ∃ a, a = numF l := ⟨_, rfl⟩
    rw [← ha] at cn hlt bl hbd ⊢
    have wa := wrap_i64n (a := a) (by omega)
    have hw := fun h => @within_c m (by omega) (a : Int) 0 ((l.length : Int) - 8) h
    have w88 : IntKind.i64.wrap ((a : Int) + 8) = (a : Int) + 8 := wrap_i64 (by omega) (by omega)
    by_cases h1 : 8 + a ≤ l.length
    · have hi : inR (a : Int) 0 ((l.length : Int) - 8) = true := inR_iff.2 (by omega)
      rw [hi] at hw
      have d1 : decide (8 + a ≤ l.length) = true := decide_eq_true h1
      have cs := cs (by rw [bl h1]; omega) (by rw [bl h1]; omega)
      have j1 : (8 : Int) ≤ (a : Int) + 8 := by omega
      have j2 : (a : Int) + 8 ≤ l.length := by omega
      have j3 : ((a : Int) + 8).toNat - 8 = a := by omega
      rw [d1]
      simp only [bD] at cn cs c4 cd ⊢
      by_cases h2 : sumF (bod l) = numF (l.drop 4)
      · have d2 : decide (sumF (bod l) = numF (l.drop 4)) = true := decide_eq_true h2
        rw [d2]
        rw [h2] at cs
        unfold decR at cd
        cases h3 : decF (bod l) with
        | true =>
          rw [h3] at cd
          simp only [if_true, erI, entD, entL, strD] at cd ⊢
          simp [-src_sl, k55, Env.v_ini, bL_len, i8, cn, wa, w8, hw, w88, i8', j1, j2, j3, hbd, head_bL, dcore_f, s16, s40, canb, can4, cs, bL_drop, tk4, i4, c4, cd, D.cells, D.one, Value.oneCell']
          omega
        | false =>
          rw [h3] at cd
          simp only [Bool.false_eq_true, if_false, hz, erI, entD, entL, strD] at cd ⊢
          simp [-src_sl, k55, Env.v_ini, bL_len, i8, cn, wa, w8, hw, w88, i8', j1, j2, j3, hbd, head_bL, dcore_f, s16, s40, canb, can4, cs, bL_drop, tk4, i4, c4, cd, D.cells, D.one, Value.oneCell']
      · have d2 : decide (sumF (bod l) = numF (l.drop 4)) = false := decide_eq_false h2
        rw [d2]
        have h2' : ((sumF (bod l) : Int) != (numF (l.drop 4) : Int)) = true := by rw [bne_iff_ne]; omega
        simp [-bne_iff_ne, -src_sl, k55, Env.v_ini, bL_len, i8, cn, wa, w8, hw, w88, i8', j1, j2, j3, hbd, head_bL, dcore_f, s16, s40, canb, can4, cs, bL_drop, tk4, i4, c4, h2', D.cells, D.one, Value.oneCell']
    · have hi : inR (a : Int) 0 ((l.length : Int) - 8) = false := by rw [← Bool.not_eq_true, inR_iff]; omega
      rw [hi] at hw
      have d1 : decide (8 + a ≤ l.length) = false := decide_eq_false h1
      rw [d1]
      simp only [bD] at cn ⊢
      simp [k55, Env.v_ini, bL_len, i8, cn, wa, w8, hw, D.cells, D.one, Value.oneCell']
  · have i8 : (l.length : Int) < 8 := by omega
    have d8 : decide (8 ≤ l.length) = false := decide_eq_false h8
    rw [d8]
    simp [k55, Env.v_ini, bD, bL_len, i8, D.cells, D.one, Value.oneCell']
end Go.Proofs.YtkbamkdgiglljaaGreat
/- The frame at the beginning of bytes, by the document. -/
namespace Go.Proofs.YtkbamkdgiglljaaGreat
open Go Go.Em
set_option maxRecDepth 100000
set_option maxHeartbeats 16000000 in
theorem rwhole_run {n : Nat} (l : List UInt8) (hl : l.length ≤ 9000000000000000) (hn : l.length + 20000 ≤ n) : pureCall (rc pg n) 56 [bD l] = some (.ret (whoR l)) := by
  obtain ⟨m, rfl, e⟩ := body (pg := pg) (f := 56) (args := [bD l]) (show 0 < n by omega) rfl rfl
  rw [e]
  have hz : entD zeroE = .agg [D.int 0, D.int 0, D.int 0, D.int 0, D.int 0, D.int 0, D.int 0, .val (.string ⟨#[]⟩)] := rfl
  unfold whoR whoF
  rw [hz]
  by_cases h8 : 8 ≤ l.length
  · have i8 : ¬ (l.length : Int) < 8 := by omega
    have i8' : (8 : Int) ≤ l.length := by omega
    have cn := fun h => call_of (h := h) (pg := pg) (f := 42) rfl (bD_can (l.take 4)) (rnumber_run (n := m) (by omega) (l.take 4) (by simp; omega))
    have nt : numF (l.take 4) = numF l := by unfold numF; rw [List.take_take]; rfl
    rw [nt] at cn
    have hlt := numF_lt l (by omega)
    have bl := @bod_len l
    have cs := rsum_run (n := m) (bod l)
    have c4 := rnumber_run (n := m) (by omega) ((l.drop 4).take 4) (by simp; omega)
    have nt4 : numF ((l.drop 4).take 4) = numF (l.drop 4) := by unfold numF; rw [List.take_take]; rfl
    rw [nt4] at c4
    have cd := fun (hb : (bod l).length ≤ 9000000000000000) h => call_of (h := h) (pg := pg) (f := 12) rfl (bD_can (bod l)) (rdecode_run (n := m) (by omega) (bod l) hb)
    have canb := bL_can (bod l)
    have can4 := bL_can ((l.drop 4).take 4)
    have hbd : (bL (l.drop 8)).take (numF l) = bL (bod l) := by rw [bL_take]; rfl
    have hbd2 : bL ((l.drop 8).take (numF l)) = bL (bod l) := rfl
    have s17 : pg.sh 17 = false := rfl
    have s42 : pg.sh 42 = false := rfl
    have d8 : decide (8 ≤ l.length) = true := decide_eq_true h8
    have i4 : (4 : Int) ≤ l.length := by omega
    have hd : decF (bod l) = true → 20 ≤ (bod l).length ∧ (bod l).length ≤ 8020 := fun h => ⟨(dec_len h).1, (dec_len h).2.1⟩
    rw [d8]
    obtain ⟨a, ha⟩ : ∃ a, a = numF l := ⟨_, rfl⟩
    rw [← ha] at cn hlt bl hbd hbd2 ⊢
    have w88 : IntKind.i64.wrap (8 + (a : Int)) = 8 + (a : Int) := wrap_i64 (by omega) (by omega)
    simp only [bD] at cn cs c4 cd ⊢
    by_cases h1 : (20 ≤ a ∧ a ≤ 8020) ∧ 8 + a ≤ l.length
    · obtain ⟨⟨k1, k2⟩, k3⟩ := h1
      have q1 : ¬ (a : Int) < 20 := by omega
      have q2 : ¬ (8020 : Int) < a := by omega
      have q3 : ¬ (l.length : Int) < 8 + (a : Int) := by omega
      have d1 : decide (8 + a ≤ l.length) = true := decide_eq_true k3
      have cs := cs (by rw [bl k3]; omega) (by rw [bl k3]; omega)
      have cd := cd (by rw [bl k3]; omega)
      have j1 : (8 : Int) ≤ 8 + (a : Int) := by omega
      have j2 : 8 + (a : Int) ≤ l.length := by omega
      have j3 : (8 + (a : Int)).toNat - 8 = a := by omega
      have ws := wrap_i64n (a := sumF (bod l)) (by have := sumF_lt (bod l); omega)
      rw [d1]
      by_cases h2 : sumF (bod l) = numF (l.drop 4)
      · have d2 : decide (sumF (bod l) = numF (l.drop 4)) = true := decide_eq_true h2
        rw [d2]
        rw [h2] at cs ws
        unfold decR at cd
        cases h3 : decF (bod l) with
        | true =>
          rw [h3] at cd
          simp only [if_true, erI, entD, entL, strD] at cd ⊢
          simp [-src_sl, k56, Env.v_ini, bL_len, i8, cn, w88, ws, i4, i8', q1, q2, q3, j1, j2, j3, hbd, hbd2, head_bL, dcore_f, s17, s42, canb, can4, cs, bL_drop, bL_take, c4, cd, D.cells, D.one, Value.oneCell']
        | false =>
          rw [h3] at cd
          simp only [Bool.false_eq_true, if_false, hz, erI, entD, entL, strD] at cd ⊢
          simp [-src_sl, k56, Env.v_ini, bL_len, i8, cn, w88, ws, i4, i8', q1, q2, q3, j1, j2, j3, hbd, hbd2, head_bL, dcore_f, s17, s42, canb, can4, cs, bL_drop, bL_take, c4, cd, D.cells, D.one, Value.oneCell']
      · have d2 : decide (sumF (bod l) = numF (l.drop 4)) = false := decide_eq_false h2
        rw [d2]
        have h2' : ((numF (l.drop 4) : Int) != (sumF (bod l) : Int)) = true := by rw [bne_iff_ne]; omega
        simp [-bne_iff_ne, -src_sl, k56, Env.v_ini, bL_len, i8, cn, w88, ws, i4, i8', q1, q2, q3, j1, j2, j3, hbd, hbd2, head_bL, dcore_f, s17, s42, canb, can4, cs, bL_drop, bL_take, c4, h2', D.cells, D.one, Value.oneCell']
    · have hf : ((true && decide (8 + a ≤ l.length)) && decide (sumF (bod l) = numF (l.drop 4)) && decF (bod l)) = false := by
        by_cases k3 : 8 + a ≤ l.length
        · have : decF (bod l) = false := by
            rw [← Bool.not_eq_true]; intro h
            have := hd h
            rw [bl k3] at this
            exact h1 ⟨this, k3⟩
          rw [this]; simp
        · rw [decide_eq_false k3]; simp
      rw [hf]
      by_cases q1 : (a : Int) < 20
      · simp [k56, Env.v_ini, bL_len, i8, cn, i4, head_bL, bL_take, q1, dcore_f, s17, s42, D.cells, D.one, Value.oneCell']
      · by_cases q2 : (8020 : Int) < a
        · simp [k56, Env.v_ini, bL_len, i8, cn, i4, head_bL, bL_take, q1, q2, dcore_f, s17, s42, D.cells, D.one, Value.oneCell']
        · have q3 : (l.length : Int) < 8 + (a : Int) := by omega
          simp [k56, Env.v_ini, bL_len, i8, cn, w88, i4, head_bL, bL_take, q1, q2, q3, dcore_f, s17, s42, D.cells, D.one, Value.oneCell']
  · have i8 : (l.length : Int) < 8 := by omega
    have d8 : decide (8 ≤ l.length) = false := decide_eq_false h8
    rw [d8]
    simp [k56, Env.v_ini, bD, bL_len, i8, D.cells, D.one, Value.oneCell']
end Go.Proofs.YtkbamkdgiglljaaGreat
