/- An entry of bytes, by the program. -/
import Derived.Test.YtkbamkdgiglljaaGreatOg
namespace Go.Proofs.YtkbamkdgiglljaaGreat
open Go Go.Em
set_option maxRecDepth 100000
def decX (l : List UInt8) : Ent := ⟨((l[0]?.getD 0).toNat : Int), (numF (l.drop 1) : Int), ((l[5]?.getD 0).toNat : Int), (numF (l.drop 6) : Int), ((l[10]?.getD 0).toNat : Int), ((l[11]?.getD 0).toNat : Int), (numF (l.drop 12) : Int), l.drop 20⟩
def decF (l : List UInt8) : Bool := (decide (20 ≤ l.length) && decide (numF (l.drop 16) = l.length - 20)) && okF (decX l)
def zeroE : Ent := ⟨0, 0, 0, 0, 0, 0, 0, []⟩
def decR (l : List UInt8) : D := .tup [if decF l = true then entD (decX l) else entD zeroE, erI (decF l) 80]
theorem dec_len {l : List UInt8} (h : decF l = true) : 20 ≤ l.length ∧ l.length ≤ 8020 ∧ numF (l.drop 16) = l.length - 20 := by
  unfold decF at h
  simp only [Bool.and_eq_true, decide_eq_true_eq] at h
  obtain ⟨_, _, _, _, _, _, _, _, _, _, _, _, _, _, _, _, h9⟩ := ok_nat h.2
  have : (l.drop 20).length ≤ 8000 := h9
  rw [List.length_drop] at this
  omega
theorem ix {l : List UInt8} {i : Nat} (h : i < l.length) : (bL l)[i]? = some (u1D (l[i]?.getD 0).toNat) := by simp [bL, h]
theorem b2s_is (m : List UInt8) : (m.map fun b => (b.toNat : Int)).foldl (fun r n => r.push (UInt8.ofNat n.toNat)) ByteArray.empty = ⟨m.toArray⟩ := by rw [push_all]; rfl
set_option maxHeartbeats 8000000 in
theorem decode_ok {l : List UInt8} (h20 : 20 ≤ l.length) (h80 : l.length ≤ 8020) (hn16 : numF (l.drop 16) = l.length - 20) {n : Nat} (hn : 100 ≤ n) : pureCall (rc pg n) 11 [bD l] = some (.ret (.tup [if okF (decX l) = true then entD (decX l) else entD zeroE, erI (okF (decX l)) 80])) := by
  obtain ⟨m, rfl, e⟩ := body (pg := pg) (f := 11) (args := [bD l]) (show 0 < n by omega) rfl rfl
  rw [e]
  have hw := @within_c m (by omega)
  have hi : inR (l.length : Int) 20 8020 = true := inR_iff.2 (by omega)
  have c16 := fun h => call_of (h := h) (pg := pg) (f := 40) rfl (bD_can (l.drop 16)) (number_run (n := m) (by omega) (l.drop 16) (by simp; omega))
  have c6 := number_run (n := m) (by omega) (l.drop 6) (by simp; omega)
  have uc : ∀ i, i + 5 ≤ l.length → l.drop i = (l[i]?.getD 0) :: l.drop (i + 1) := fun i hi => by
    rw [List.drop_eq_getElem_cons (by omega)]; simp [show i < l.length by omega]
  have c0 := place_run (n := m) (by omega) (l[0]?.getD 0) (l.drop 1) (by simp; omega)
  have c11 := place_run (n := m) (by omega) (l[11]?.getD 0) (l.drop 12) (by simp; omega)
  rw [← uc 0 (by omega), List.drop_zero] at c0
  rw [← uc 11 (by omega)] at c11
  have ck := fun h => call_of (h := h) (pg := pg) (f := 13) rfl (entD_can (decX l)) (check_run (n := m) (by omega) (decX l))
  rw [hn16] at c16
  have s40 : pg.sh 40 = false := rfl
  have s41 : pg.sh 41 = false := rfl
  have w5 := wrap_i64n (a := (l[5]?.getD 0).toNat) (by have := (l[5]?.getD 0).toNat_lt; omega)
  have w10 := wrap_i64n (a := (l[10]?.getD 0).toNat) (by have := (l[10]?.getD 0).toNat_lt; omega)
  have w6 := wrap_i64n (a := numF (l.drop 6)) (by have := numF_lt (l.drop 6) (by simp; omega); omega)
  have w20 : IntKind.i64.wrap ((l.length - 20 : Nat) : Int) = ((l.length - 20 : Nat) : Int) := wrap_i64n (by omega)
  have w20b : IntKind.i64.wrap ((l.length : Int) - 20) = ((l.length - 20 : Nat) : Int) := by rw [wrap_i64 (by omega) (by omega)]; omega
  have x5 := ix (l := l) (i := 5) (by omega)
  have x10 := ix (l := l) (i := 10) (by omega)
  have tk : ∀ i, (bL (l.drop i)).take (l.length - i) = bL (l.drop i) := fun i => List.take_of_length_le (by rw [bL_len, List.length_drop]; exact Nat.le_refl _)
  have tk0 : (bL l).take l.length = bL l := List.take_of_length_le (by rw [bL_len]; exact Nat.le_refl _)
  have i16 : (16 : Int) ≤ l.length := by omega
  have i6 : (6 : Int) ≤ l.length := by omega
  have i11 : (11 : Int) ≤ l.length := by omega
  have i20 : (20 : Int) ≤ l.length := by omega
  have can : ∀ i, D.canonL (bL (l.drop i)) = true := fun i => bL_can _
  have can0 := bL_can l
  simp only [bD, plD] at c16 c6 c0 c11 ⊢
  obtain ⟨X, hX⟩ : ∃ X, X = decX l := ⟨_, rfl⟩
  rw [← hX] at ck ⊢
  have eX : entD X = .agg [D.int (l[0]?.getD 0).toNat, D.int (numF (l.drop 1)), D.int (l[5]?.getD 0).toNat, D.int (numF (l.drop 6)), D.int (l[10]?.getD 0).toNat, D.int (l[11]?.getD 0).toNat, D.int (numF (l.drop 12)), .val (.string ⟨(l.drop 20).toArray⟩)] := by rw [hX]; rfl
  rw [eX] at ck ⊢
  have hwi := fun h => hw (l.length : Int) 20 8020 h
  rw [hi] at hwi
  generalize (l[0]?.getD 0).toNat = y0 at *
  generalize (l[5]?.getD 0).toNat = y5 at *
  generalize (l[10]?.getD 0).toNat = y10 at *
  generalize (l[11]?.getD 0).toNat = y11 at *
  generalize numF (l.drop 1) = n1 at *
  generalize numF (l.drop 6) = n6 at *
  generalize numF (l.drop 12) = n12 at *
  have hz : entD zeroE = .agg [D.int 0, D.int 0, D.int 0, D.int 0, D.int 0, D.int 0, D.int 0, .val (.string ⟨#[]⟩)] := rfl
  rw [hz]
  have hs : List.foldl (fun (r : ByteArray) (n : Int) => r.push (UInt8.ofNat n.toNat)) ByteArray.empty (List.drop 20 (List.map (fun b : UInt8 => (b.toNat : Int)) l)) = ⟨(l.drop 20).toArray⟩ := by rw [← List.map_drop]; exact b2s_is _
  unfold erI at ck ⊢
  cases hok : okF X <;> rw [hok] at ck <;> simp [-src_sl, k11, Env.v_ini, hwi, c16, c6, c0, c11, ck, dcore_f, s40, s41, w5, w6, w10, w20, w20b, x5, x10, tk, tk0, bL_drop, bL_len, i16, i6, i11, i20, can, can0, head_bL, src_bL, unbytes_bL, hs, D.cells, D.one, Value.oneCell']
set_option maxHeartbeats 4000000 in
theorem decode_run {n : Nat} (hn : 100 ≤ n) (l : List UInt8) : pureCall (rc pg n) 11 [bD l] = some (.ret (decR l)) := by
  by_cases h1 : (20 ≤ l.length ∧ l.length ≤ 8020) ∧ numF (l.drop 16) = l.length - 20
  · rw [decode_ok h1.1.1 h1.1.2 h1.2 hn]
    have : decF l = okF (decX l) := by unfold decF; rw [decide_eq_true h1.1.1, decide_eq_true h1.2]; rfl
    unfold decR
    rw [this]
  · have hd : decF l = false := by
      rw [← Bool.not_eq_true]; intro h
      have := dec_len h
      exact h1 ⟨⟨this.1, this.2.1⟩, this.2.2⟩
    unfold decR erI
    rw [hd]
    obtain ⟨m, rfl, e⟩ := body (pg := pg) (f := 11) (args := [bD l]) (show 0 < n by omega) rfl rfl
    rw [e]
    have hz : entD zeroE = .agg [D.int 0, D.int 0, D.int 0, D.int 0, D.int 0, D.int 0, D.int 0, .val (.string ⟨#[]⟩)] := rfl
    rw [hz]
    have hw := fun h => @within_c m (by omega) (l.length : Int) 20 8020 h
    by_cases h2 : 20 ≤ l.length ∧ l.length ≤ 8020
    · have hi : inR (l.length : Int) 20 8020 = true := inR_iff.2 (by omega)
      rw [hi] at hw
      have c16 := fun h => call_of (h := h) (pg := pg) (f := 40) rfl (bD_can (l.drop 16)) (number_run (n := m) (by omega) (l.drop 16) (by simp; omega))
      have hlt := numF_lt (l.drop 16) (by simp; omega)
      have hne : numF (l.drop 16) ≠ l.length - 20 := fun e => h1 ⟨h2, e⟩
      obtain ⟨a, ha⟩ : ∃ a, a = numF (l.drop 16) := ⟨_, rfl⟩
      rw [← ha] at hlt hne c16
      have w16 := wrap_i64n (a := a) (by omega)
      have w20b : IntKind.i64.wrap ((l.length : Int) - 20) = ((l.length - 20 : Nat) : Int) := by rw [wrap_i64 (by omega) (by omega)]; omega
      obtain ⟨q, hq⟩ : ∃ q, q = l.length - 20 := ⟨_, rfl⟩
      rw [← hq] at w20b hne
      have hne' : ((a : Int) != (q : Int)) = true := by rw [bne_iff_ne]; omega
      have tk : ∀ i, (bL (l.drop i)).take (l.length - i) = bL (l.drop i) := fun i => List.take_of_length_le (by rw [bL_len, List.length_drop]; exact Nat.le_refl _)
      have i16 : (16 : Int) ≤ l.length := by omega
      simp only [bD] at c16 ⊢
      simp [-bne_iff_ne, -src_sl, k11, Env.v_ini, hw, c16, w16, w20b, hne', tk, bL_drop, bL_len, i16, head_bL, D.cells, D.one, Value.oneCell']
    · have hi : inR (l.length : Int) 20 8020 = false := by rw [← Bool.not_eq_true, inR_iff]; omega
      rw [hi] at hw
      simp [k11, Env.v_ini, bD, hw, bL_len, D.cells, D.one, Value.oneCell']
end Go.Proofs.YtkbamkdgiglljaaGreat
