/- An entry of bytes, by the document. -/
import Derived.Test.YtkbamkdgiglljaaGreatOh
namespace Go.Proofs.YtkbamkdgiglljaaGreat
open Go Go.Em
set_option maxRecDepth 100000
theorem only_run {n : Nat} (hn : 1 ≤ n) (x : Ent) (b : Bool) : pureCall (rc pg n) 43 [entD x, erI b 80] = some (.ret (.tup [if b = true then entD x else entD zeroE, erI b 80])) := by
  obtain ⟨m, rfl, e⟩ := body (pg := pg) (f := 43) (args := [entD x, erI b 80]) (show 0 < n by omega) rfl rfl
  rw [e]
  have hz : entD zeroE = .agg [D.int 0, D.int 0, D.int 0, D.int 0, D.int 0, D.int 0, D.int 0, .val (.string ⟨#[]⟩)] := rfl
  rw [hz]
  simp only [entD, entL, strD, erI]
  cases b <;> simp [k43, Env.v_ini, D.cells, D.one, Value.oneCell']
set_option maxHeartbeats 16000000 in
theorem rdecode_ok {l : List UInt8} (h20 : 20 ≤ l.length) (hl : l.length ≤ 9000000000000000) (hn16 : numF (l.drop 16) = l.length - 20) {n : Nat} (hn : 100 ≤ n) : pureCall (rc pg n) 12 [bD l] = some (.ret (.tup [if okF (decX l) = true then entD (decX l) else entD zeroE, erI (okF (decX l)) 80])) := by
  obtain ⟨m, rfl, e⟩ := body (pg := pg) (f := 12) (args := [bD l]) (show 0 < n by omega) rfl rfl
  rw [e]
  have nt : ∀ i, i + 4 ≤ l.length → numF ((l.drop i).take 4) = numF (l.drop i) := fun i hi => by unfold numF; rw [List.take_take]; rfl
  have c16 := fun h => call_of (h := h) (pg := pg) (f := 42) rfl (bD_can ((l.drop 16).take 4)) (rnumber_run (n := m) (by omega) ((l.drop 16).take 4) (by simp; omega))
  have c1 := rnumber_run (n := m) (by omega) ((l.drop 1).take 4) (by simp; omega)
  have c6 := rnumber_run (n := m) (by omega) ((l.drop 6).take 4) (by simp; omega)
  have c12 := rnumber_run (n := m) (by omega) ((l.drop 12).take 4) (by simp; omega)
  have ck := rcheck_run (n := m) (by omega) (decX l)
  have co := only_run (n := m) (by omega) (decX l) (okF (decX l))
  rw [nt 16 (by omega), hn16] at c16
  rw [nt 1 (by omega)] at c1
  rw [nt 6 (by omega)] at c6
  rw [nt 12 (by omega)] at c12
  have s42 : pg.sh 42 = false := rfl
  have s14 : pg.sh 14 = false := rfl
  have s43 : pg.sh 43 = false := rfl
  have w0 := wrap_i64n (a := (l[0]?.getD 0).toNat) (by have := (l[0]?.getD 0).toNat_lt; omega)
  have w5 := wrap_i64n (a := (l[5]?.getD 0).toNat) (by have := (l[5]?.getD 0).toNat_lt; omega)
  have w10 := wrap_i64n (a := (l[10]?.getD 0).toNat) (by have := (l[10]?.getD 0).toNat_lt; omega)
  have w11 := wrap_i64n (a := (l[11]?.getD 0).toNat) (by have := (l[11]?.getD 0).toNat_lt; omega)
  have w20b : IntKind.i64.wrap ((l.length : Int) - 20) = ((l.length - 20 : Nat) : Int) := by rw [wrap_i64 (by omega) (by omega)]; omega
  have x0 := ix (l := l) (i := 0) (by omega)
  have x5 := ix (l := l) (i := 5) (by omega)
  have x10 := ix (l := l) (i := 10) (by omega)
  have x11 := ix (l := l) (i := 11) (by omega)
  have tk : ∀ i, (bL (l.drop i)).take (l.length - i) = bL (l.drop i) := fun i => List.take_of_length_le (by rw [bL_len, List.length_drop]; exact Nat.le_refl _)
  have i5 : (5 : Int) ≤ l.length := by omega
  have i10 : (10 : Int) ≤ l.length := by omega
  have i16 : (16 : Int) ≤ l.length := by omega
  have i20 : (20 : Int) ≤ l.length := by omega
  have i20' : ¬ (l.length : Int) < 20 := by omega
  have can : ∀ i j, D.canonL (bL ((l.drop i).take j)) = true := fun i j => bL_can _
  have can2 : (entD (decX l)).canon = true := rfl
  simp only [bD] at c16 c6 c1 c12 ⊢
  obtain ⟨X, hX⟩ : ∃ X, X = decX l := ⟨_, rfl⟩
  rw [← hX] at ck co ⊢
  have eX : entD X = .agg [D.int (l[0]?.getD 0).toNat, D.int (numF (l.drop 1)), D.int (l[5]?.getD 0).toNat, D.int (numF (l.drop 6)), D.int (l[10]?.getD 0).toNat, D.int (l[11]?.getD 0).toNat, D.int (numF (l.drop 12)), .val (.string ⟨(l.drop 20).toArray⟩)] := by rw [hX]; rfl
  rw [eX] at ck co ⊢
  generalize (l[0]?.getD 0).toNat = y0 at *
  generalize (l[5]?.getD 0).toNat = y5 at *
  generalize (l[10]?.getD 0).toNat = y10 at *
  generalize (l[11]?.getD 0).toNat = y11 at *
  generalize numF (l.drop 1) = n1 at *
  generalize numF (l.drop 6) = n6 at *
  generalize numF (l.drop 12) = n12 at *
  have hz : entD zeroE = .agg [D.int 0, D.int 0, D.int 0, D.int 0, D.int 0, D.int 0, D.int 0, .val (.string ⟨#[]⟩)] := rfl
  rw [hz] at co ⊢
  have hs : List.foldl (fun (r : ByteArray) (n : Int) => r.push (UInt8.ofNat n.toNat)) ByteArray.empty (List.drop 20 (List.map (fun b : UInt8 => (b.toNat : Int)) l)) = ⟨(l.drop 20).toArray⟩ := by rw [← List.map_drop]; exact b2s_is _
  unfold erI at ck co ⊢
  cases hok : okF X <;> rw [hok] at ck co <;> simp only [Bool.false_eq_true, if_false, if_true] at co <;> simp [-src_sl, -List.drop_one, k12, Env.v_ini, c16, c6, c1, c12, ck, co, dcore_f, s42, s14, s43, w0, w5, w10, w11, w20b, x0, x5, x10, x11, tk, bL_drop, bL_take, bL_len, i5, i10, i16, i20, i20', can, head_bL, src_bL, unbytes_bL, hs, D.cells, D.one, Value.oneCell']
set_option maxHeartbeats 4000000 in
theorem rdecode_run {n : Nat} (hn : 100 ≤ n) (l : List UInt8) (hl : l.length ≤ 9000000000000000) : pureCall (rc pg n) 12 [bD l] = some (.ret (decR l)) := by
  by_cases h1 : 20 ≤ l.length ∧ numF (l.drop 16) = l.length - 20
  · rw [rdecode_ok h1.1 hl h1.2 hn]
    have : decF l = okF (decX l) := by unfold decF; rw [decide_eq_true h1.1, decide_eq_true h1.2]; rfl
    unfold decR
    rw [this]
  · have hd : decF l = false := by
      rw [← Bool.not_eq_true]; intro h
      have := dec_len h
      exact h1 ⟨this.1, this.2.2⟩
    unfold decR erI
    rw [hd]
    obtain ⟨m, rfl, e⟩ := body (pg := pg) (f := 12) (args := [bD l]) (show 0 < n by omega) rfl rfl
    rw [e]
    have hz : entD zeroE = .agg [D.int 0, D.int 0, D.int 0, D.int 0, D.int 0, D.int 0, D.int 0, .val (.string ⟨#[]⟩)] := rfl
    rw [hz]
    by_cases h2 : 20 ≤ l.length
    · have nt : numF ((l.drop 16).take 4) = numF (l.drop 16) := by unfold numF; rw [List.take_take]; rfl
      have c16 := fun h => call_of (h := h) (pg := pg) (f := 42) rfl (bD_can ((l.drop 16).take 4)) (rnumber_run (n := m) (by omega) ((l.drop 16).take 4) (by simp; omega))
      rw [nt] at c16
      have hne : numF (l.drop 16) ≠ l.length - 20 := fun e => h1 ⟨h2, e⟩
      obtain ⟨a, ha⟩ : ∃ a, a = numF (l.drop 16) := ⟨_, rfl⟩
      rw [← ha] at hne c16
      have w20b : IntKind.i64.wrap ((l.length : Int) - 20) = ((l.length - 20 : Nat) : Int) := by rw [wrap_i64 (by omega) (by omega)]; omega
      obtain ⟨q, hq⟩ : ∃ q, q = l.length - 20 := ⟨_, rfl⟩
      rw [← hq] at w20b hne
      have hne' : ((a : Int) != (q : Int)) = true := by rw [bne_iff_ne]; omega
      have i20 : (20 : Int) ≤ l.length := by omega
      have i20' : ¬ (l.length : Int) < 20 := by omega
      simp only [bD] at c16 ⊢
      simp [-bne_iff_ne, -src_sl, k12, Env.v_ini, c16, w20b, hne', bL_drop, bL_take, bL_len, i20, i20', head_bL, D.cells, D.one, Value.oneCell']
    · have i20' : (l.length : Int) < 20 := by omega
      simp [k12, Env.v_ini, bD, bL_len, i20', D.cells, D.one, Value.oneCell']
end Go.Proofs.YtkbamkdgiglljaaGreat
