/- The law: the bytes of an entry are read as the entry, and what is read of bytes is written as they are. -/
import Derived.Test.YtkbamkdgiglljaaOh
import Derived.Test.YtkbamkdgiglljaaSane
namespace Go.Proofs.Ytkbamkdgiglljaa
open Go Go.Em
set_option maxRecDepth 100000
theorem num_four {n : Nat} (h : n < 4294967296) (r : List UInt8) : numF (fourL n ++ r) = n := by
  unfold fourL
  simp only [List.cons_append, List.nil_append]
  rw [numF_cons]
  simp only [UInt8.toNat_ofNat']
  omega
theorem four_num (a b c d : UInt8) : fourL (((a.toNat * 256 + b.toNat) * 256 + c.toNat) * 256 + d.toNat) = [a, b, c, d] := by
  have h1 := a.toNat_lt
  have h2 := b.toNat_lt
  have h3 := c.toNat_lt
  have h4 := d.toNat_lt
  unfold fourL
  have e : ∀ (q : UInt8) (n : Nat), n % 256 = q.toNat → UInt8.ofNat n = q := fun q n h => by
    rw [← UInt8.toNat_inj, UInt8.toNat_ofNat']; exact h
  rw [e a _ (by omega), e b _ (by omega), e c _ (by omega), e d _ (by omega)]
theorem dec_enc {x : Ent} (h : okF x = true) : decF (encL x) = true ∧ decX (encL x) = x := by
  obtain ⟨o, s, k, hh, r, fo, fs, hx, b1, b2, b3, b4, b5, b6, b7, b8, b9⟩ := ok_nat h
  have hl : encL x = e20 o s k hh r fo fs x.t.length ++ x.t := by
    unfold encL
    rw [if_pos h]
    have e : e20x x = e20 o s k hh r fo fs x.t.length := by rw [hx]; rfl
    rw [e]
  rw [hl]
  obtain ⟨l, hl2⟩ : ∃ l, l = e20 o s k hh r fo fs x.t.length ++ x.t := ⟨_, rfl⟩
  have d0 : l[0]?.getD 0 = UInt8.ofNat o := by rw [hl2]; rfl
  have d5 : l[5]?.getD 0 = UInt8.ofNat k := by rw [hl2]; rfl
  have d10 : l[10]?.getD 0 = UInt8.ofNat r := by rw [hl2]; rfl
  have d11 : l[11]?.getD 0 = UInt8.ofNat fo := by rw [hl2]; rfl
  have n1 : numF (l.drop 1) = s := by
    have : l.drop 1 = fourL s ++ l.drop 5 := by rw [hl2]; rfl
    rw [this, num_four (by omega)]
  have n6 : numF (l.drop 6) = hh := by
    have : l.drop 6 = fourL hh ++ l.drop 10 := by rw [hl2]; rfl
    rw [this, num_four (by omega)]
  have n12 : numF (l.drop 12) = fs := by
    have : l.drop 12 = fourL fs ++ l.drop 16 := by rw [hl2]; rfl
    rw [this, num_four (by omega)]
  have n16 : numF (l.drop 16) = x.t.length := by
    have : l.drop 16 = fourL x.t.length ++ l.drop 20 := by rw [hl2]; rfl
    rw [this, num_four (by omega)]
  have d20 : l.drop 20 = x.t := by rw [hl2]; rfl
  have len : l.length = 20 + x.t.length := by rw [hl2]; simp [e20, fourL]; omega
  have hX : decX l = x := by
    unfold decX
    rw [d0, d5, d10, d11, n1, n6, n12, d20]
    simp only [UInt8.toNat_ofNat']
    rw [Nat.mod_eq_of_lt (show o < 2 ^ 8 by omega), Nat.mod_eq_of_lt (show k < 2 ^ 8 by omega), Nat.mod_eq_of_lt (show r < 2 ^ 8 by omega), Nat.mod_eq_of_lt (show fo < 2 ^ 8 by omega)]
    exact hx.symm
  rw [← hl2]
  refine ⟨?_, hX⟩
  unfold decF
  rw [hX, h, n16, decide_eq_true (show 20 ≤ l.length by omega), decide_eq_true (show x.t.length = l.length - 20 by omega)]
  rfl
theorem enc_dec {l : List UInt8} (h : decF l = true) : okF (decX l) = true ∧ encL (decX l) = l := by
  have hok : okF (decX l) = true := by
    unfold decF at h
    simp only [Bool.and_eq_true] at h
    exact h.2
  refine ⟨hok, ?_⟩
  obtain ⟨h1, h2, h3⟩ := dec_len h
  unfold encL
  rw [if_pos hok]
  have uc : ∀ i, i < l.length → l.drop i = (l[i]?.getD 0) :: l.drop (i + 1) := fun i hi => by
    rw [List.drop_eq_getElem_cons hi]; simp [hi]
  have u4 : ∀ i, i + 4 ≤ l.length → l.drop i = fourL (numF (l.drop i)) ++ l.drop (i + 4) := fun i hi => by
    rw [uc i (by omega), uc (i + 1) (by omega), uc (i + 2) (by omega), uc (i + 3) (by omega), numF_cons, four_num]
    rfl
  have b : ∀ q : UInt8, UInt8.ofNat q.toNat = q := fun q => by simp
  have e : e20x (decX l) = e20 (l[0]?.getD 0).toNat (numF (l.drop 1)) (l[5]?.getD 0).toNat (numF (l.drop 6)) (l[10]?.getD 0).toNat (l[11]?.getD 0).toNat (numF (l.drop 12)) (l.drop 20).length := rfl
  rw [e, List.length_drop, ← h3]
  show e20 _ _ _ _ _ _ _ _ ++ l.drop 20 = l
  unfold e20
  rw [b, b, b, b]
  have f0 := uc 0 (by omega)
  rw [List.drop_zero] at f0
  conv => rhs; rw [f0, u4 1 (by omega), uc 5 (by omega), u4 6 (by omega), uc 10 (by omega), uc 11 (by omega), u4 12 (by omega), u4 16 (by omega)]
  simp
set_option maxHeartbeats 8000000 in
theorem bytes_all (x : Ent) (l : List UInt8) {n : Nat} (hn : 2000 ≤ n) : pureCall (rc pg n) 3 [entD x, bD l] = some (.ret (D.bool true)) := by
  obtain ⟨m, rfl, e⟩ := body (pg := pg) (f := 3) (args := [entD x, bD l]) (show 0 < n by omega) rfl rfl
  rw [e]
  have c1 := fun h => call_of (h := h) (pg := pg) (f := 4) rfl (entD_can x) (encode_run (n := m) (by omega) x)
  have c2 := fun h => call_of (h := h) (pg := pg) (f := 5) rfl (bD_can (encL x)) (decode_run (n := m) (by omega) (encL x))
  have c3 := fun h => call_of (h := h) (pg := pg) (f := 5) rfl (bD_can l) (decode_run (n := m) (by omega) l)
  have cs := @sane_call m (by omega)
  have eqs : ∀ t : List UInt8, ((⟨t.toArray⟩ : ByteArray) == ⟨t.toArray⟩) = true := fun t => by rw [str_eq]; simp
  have hz : entD zeroE = .agg [D.int 0, D.int 0, D.int 0, D.int 0, D.int 0, D.int 0, D.int 0, .val (.string ⟨#[]⟩)] := rfl
  -- what the second half answers
  obtain ⟨X, hX⟩ : ∃ X, X = decX l := ⟨_, rfl⟩
  have c4 := fun h => call_of (h := h) (pg := pg) (f := 4) rfl (entD_can (decX l)) (encode_run (n := m) (by omega) (decX l))
  have c5 := fun h => call_of (h := h) (pg := pg) (f := 4) rfl (entD_can zeroE) (encode_run (n := m) (by omega) zeroE)
  have hs : List.foldl (fun (r : ByteArray) (n : Int) => r.push (UInt8.ofNat n.toNat)) ByteArray.empty (List.map (fun b : UInt8 => (b.toNat : Int)) l) = ⟨l.toArray⟩ := b2s_is _
  unfold encR erI at c1 c4 c5
  unfold decR erI at c2 c3
  have okz : okF zeroE = false := by decide
  rw [okz] at c5
  rw [← hX] at c3 c4
  cases h1 : okF x with
  | true =>
    obtain ⟨d1, d2⟩ := dec_enc h1
    rw [h1] at c1
    rw [d1, d2] at c2
    simp only [if_true, Bool.false_eq_true, if_false, bD, entD, entL, strD] at c1 c2 c3 c4 c5 ⊢
    cases h2 : decF l with
    | true =>
      obtain ⟨f1, f2⟩ := enc_dec h2
      rw [h2] at c3
      rw [← hX] at f1 f2
      rw [f1, f2] at c4
      simp only [if_true] at c3 c4
      simp [-src_sl, k3, Env.v_ini, c1, c2, c3, c4, cs, eqs, src_bL, unbytes_bL, hs, D.cells, D.one, Value.oneCell']
    | false =>
      rw [h2] at c3
      simp only [Bool.false_eq_true, if_false] at c3
      simp [-src_sl, k3, Env.v_ini, c1, c2, c3, c5, cs, eqs, D.cells, D.one, Value.oneCell']
  | false =>
    rw [h1] at c1
    obtain ⟨Y, hY⟩ : ∃ Y : Ent, (if decF (encL x) = true then entD (decX (encL x)) else entD zeroE) = entD Y := by split <;> exact ⟨_, rfl⟩
    rw [hY] at c2
    simp only [if_true, Bool.false_eq_true, if_false, bD, entD, entL, strD] at c1 c2 c3 c4 c5 ⊢
    cases h2 : decF l with
    | true =>
      obtain ⟨f1, f2⟩ := enc_dec h2
      rw [h2] at c3
      rw [← hX] at f1 f2
      rw [f1, f2] at c4
      simp only [if_true] at c3 c4
      simp [-src_sl, k3, Env.v_ini, c1, c2, c3, c4, cs, src_bL, unbytes_bL, hs, D.cells, D.one, Value.oneCell']
    | false =>
      rw [h2] at c3
      simp only [Bool.false_eq_true, if_false] at c3
      simp [-src_sl, k3, Env.v_ini, c1, c2, c3, c5, cs, D.cells, D.one, Value.oneCell']
end Go.Proofs.Ytkbamkdgiglljaa
