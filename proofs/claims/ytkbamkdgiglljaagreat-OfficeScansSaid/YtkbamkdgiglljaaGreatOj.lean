/- The check sum of bytes, by the program and by the document. -/
import Derived.Test.YtkbamkdgiglljaaGreatOe
namespace Go.Proofs.YtkbamkdgiglljaaGreat
open Go Go.Em
set_option maxRecDepth 100000
theorem Res.yb {L : Option (Ex × St)} {i1 i2 : Nat} {F : St → Option (Ex × St)} {P Q : Ex → St → Prop} (h : Res L P) (hk : ∀ x s, P x s → Res (andThen (blockK i1 (blockK i2 (some (x, s)))) F) Q) : Res (andThen (blockK i1 (blockK i2 L)) F) Q := by
  obtain ⟨x, s, rfl, p⟩ := h; exact hk x s p
def stN (v : Nat) : Nat := (v / 2) ^^^ (3988292384 * (v % 2))
def itN : Nat → Nat → Nat
  | 0, v => v
  | n + 1, v => stN (itN n v)
def byN (v : Nat) (c : UInt8) : Nat := itN 8 (v ^^^ c.toNat)
def sumL (l : List UInt8) : Nat := l.foldl byN 4294967295
def sumF (l : List UInt8) : Nat := 4294967295 - sumL l
theorem stN_lt {v : Nat} (h : v < 4294967296) : stN v < 4294967296 := Nat.xor_lt_two_pow (n := 32) (by omega) (by omega)
theorem itN_lt {v : Nat} (h : v < 4294967296) : ∀ n, itN n v < 4294967296
  | 0 => h
  | n + 1 => stN_lt (itN_lt h n)
theorem byN_lt {v : Nat} (h : v < 4294967296) (c : UInt8) : byN v c < 4294967296 := itN_lt (Nat.xor_lt_two_pow (n := 32) h (by have := c.toNat_lt; omega)) 8
theorem sumL_snoc (l : List UInt8) (b : UInt8) : sumL (l ++ [b]) = byN (sumL l) b := by simp [sumL]
theorem fold_lt : ∀ (l : List UInt8) (v : Nat), v < 4294967296 → l.foldl byN v < 4294967296
  | [], _, h => h
  | c :: l, v, h => fold_lt l _ (byN_lt h c)
theorem sumL_lt (l : List UInt8) : sumL l < 4294967296 := fold_lt l _ (by omega)
theorem sumF_lt (l : List UInt8) : sumF l < 4294967296 := by unfold sumF; omega
def SiI (l : List UInt8) (ix w : Nat) (i : Nat) (s : St) : Prop := ∃ (x : Env 28) (h : Heap) (j : Nat), s = ⟨x.l, h, []⟩ ∧ j + i = 8 ∧ x.v 3 = u4D (itN j w) ∧ x.v 6 = .sl false (bL l) ∧ x.v 7 = D.int l.length ∧ x.v 8 = D.int ix ∧ x.v 16 = D.int j
theorem si_round (l : List UInt8) (ix w : Nat) (hw : w < 4294967296) : ∀ n, 1 ≤ n → ∀ i s, SiI l ix w i s → Res (k16l0.ev ⟨pg, 28, none⟩ (rc pg n) s) (Rnd (SiI l ix w) (fun x s => x = .exit 2 ∧ SiI l ix w 0 s) i) := by
  rintro n hn i s ⟨x, h, j, rfl, hij, v3, v6, v7, v8, v16⟩
  by_cases hj : j < 8
  · have hlt := itN_lt hw j
    have e1 : itN (j + 1) w = stN (itN j w) := rfl
    obtain ⟨v, hv⟩ : ∃ v, v = itN j w := ⟨_, rfl⟩
    rw [← hv] at v3 hlt e1
    have f1 : bin .shr (.int .u32 (v : Int)) (.int .u64 1) = some (.int .u32 ((v / 2 : Nat) : Int)) := bin_shr32u (n := 1) (by omega)
    have f2 := bin_and32 hlt
    obtain ⟨q, hq⟩ : ∃ q, q = v / 2 := ⟨_, rfl⟩
    obtain ⟨b, hb⟩ : ∃ b, b = v % 2 := ⟨_, rfl⟩
    rw [← hq] at f1
    rw [← hb] at f2
    have f3 : IntKind.u32.wrap (3988292384 * (b : Int)) = ((3988292384 * b : Nat) : Int) := by
      have e : (3988292384 * (b : Int)) = ((3988292384 * b : Nat) : Int) := by rw [Int.natCast_mul]; rfl
      rw [e]
      exact wrap_u32 (by omega)
    obtain ⟨p, hp⟩ : ∃ p, p = 3988292384 * b := ⟨_, rfl⟩
    rw [← hp] at f3
    have f4 := bin_xor32 (a := q) (b := p) (by omega) (by omega)
    have e2 : stN v = q ^^^ p := by rw [hq, hp, hb]; rfl
    rw [← e2] at f4
    have w1 : IntKind.i64.wrap ((j : Int) + 1) = (j : Int) + 1 := wrap_i64 (by omega) (by omega)
    have hj8 : (j : Int) < 8 := by omega
    simp [k16l0, v3, v16, hj8, f1, f2, f3, f4, w1]
    exact ⟨i - 1, by omega, _, _, j + 1, rfl, by omega, by simp [e1], by simp [v6], by simp [v7], by simp [v8], by simp⟩
  · obtain rfl : j = 8 := by omega
    simp [k16l0, v16]
    exact ⟨_, _, 8, rfl, by omega, by simp [v3], by simp [v6], by simp [v7], by simp [v8], by simp [v16]⟩
def SoI (l : List UInt8) (i : Nat) (s : St) : Prop := ∃ (x : Env 28) (h : Heap) (j : Nat), s = ⟨x.l, h, []⟩ ∧ j + i = l.length ∧ x.v 3 = u4D (sumL (l.take j)) ∧ x.v 6 = .sl false (bL l) ∧ x.v 7 = D.int l.length ∧ x.v 8 = D.int j
theorem so_round (l : List UInt8) (hl : l.length ≤ 9000000000000000) : ∀ n, 20 ≤ n → ∀ i s, SoI l i s → Res (k16l1.ev ⟨pg, 28, none⟩ (rc pg n) s) (Rnd (SoI l) (fun x s => x = .exit 0 ∧ SoI l 0 s) i) := by
  rintro n hn i s ⟨x, h, j, rfl, hij, v3, v6, v7, v8⟩
  by_cases hj : j < l.length
  · obtain ⟨b, hb⟩ : ∃ b, l[j] = b := ⟨_, rfl⟩
    have htk : l.take (j + 1) = l.take j ++ [b] := by rw [List.take_add_one, List.getElem?_eq_getElem hj, hb]; rfl
    have hg : (bL l)[j]? = some (u1D b.toNat) := by simp [bL, hb, hj]
    have hlt := sumL_lt (l.take j)
    have e1 : sumL (l.take (j + 1)) = itN 8 (sumL (l.take j) ^^^ b.toNat) := by rw [htk, sumL_snoc]; rfl
    obtain ⟨v, hv⟩ : ∃ v, v = sumL (l.take j) := ⟨_, rfl⟩
    rw [← hv] at v3 hlt e1
    have hb8 := b.toNat_lt
    obtain ⟨c, hc⟩ : ∃ c, c = b.toNat := ⟨_, rfl⟩
    rw [← hc] at hg e1 hb8
    have wc := wrap_u32 (a := c) (by omega)
    have f4 := bin_xor32 (a := v) (b := c) hlt (by omega)
    have hx : v ^^^ c < 4294967296 := Nat.xor_lt_two_pow (n := 32) hlt (by omega)
    obtain ⟨w, hw⟩ : ∃ w, w = v ^^^ c := ⟨_, rfl⟩
    rw [← hw] at f4 hx e1
    have w1 : IntKind.i64.wrap ((j : Int) + 1) = (j : Int) + 1 := wrap_i64 (by omega) (by omega)
    simp [k16l1, v3, v6, v7, v8, hj, hg, wc, f4, ev_loop, D.cells]
    refine Res.yb (lp_rule 1 (SiI l j w) _ (si_round l j w hx) 8 n _ (by omega) ⟨_, _, 0, rfl, by omega, by simp [itN], by simp [v6], by simp [v7], by simp [v8], by simp⟩) ?_
    rintro y s ⟨rfl, y, h1, j1, rfl, hj1, y3, y6, y7, y8, y16⟩
    obtain rfl : j1 = 8 := by omega
    simp [y8, w1]
    exact ⟨i - 1, by omega, _, _, j + 1, rfl, by omega, by simp [y3, e1], by simp [y6], by simp [y7], by simp⟩
  · obtain rfl : j = l.length := by omega
    simp [k16l1, v7, v8]
    exact ⟨_, _, l.length, rfl, by omega, by simp [v3], by simp [v6], by simp [v7], by simp [v8]⟩
theorem sum_run {n : Nat} (l : List UInt8) (hl : l.length ≤ 9000000000000000) (hn : l.length + 100 ≤ n) : pureCall (rc pg n) 16 [bD l] = some (.ret (u4D (sumF l))) := by
  obtain ⟨m, rfl, e⟩ := body (pg := pg) (f := 16) (args := [bD l]) (show 0 < n by omega) rfl rfl
  rw [e]
  simp [k16, Env.v_ini, bD, ev_loop, bL_len]
  refine Res.endsAfter (lp_rule 20 (SoI l) _ (so_round l hl) l.length m _ (by omega) ⟨_, _, 0, rfl, by omega, by simp [sumL], by simp, by simp, by simp⟩) ?_
  rintro x s ⟨rfl, x, h, j, rfl, hj, v3, v6, v7, v8⟩
  obtain rfl : j = l.length := by omega
  rw [List.take_length] at v3
  have hlt := sumL_lt l
  have hc : ans (Op.unary .xor (.int .u32 (sumL l : Int))) = some (.int .u32 ((sumF l : Nat) : Int)) := by
    unfold sumF
    have e1 : Op.unary .xor (.int .u32 (sumL l : Int)) = .pure (.int .u32 (IntKind.u32.wrap ((BitVec.ofInt 32 ((4294967295 : Nat) : Int) ^^^ BitVec.ofInt 32 (sumL l : Int)).toNat : Int))) := rfl
    have e2 : BitVec.ofInt 32 ((4294967295 : Nat) : Int) = BitVec.allOnes 32 := by decide
    rw [e1, e2, BitVec.allOnes_xor, BitVec.toNat_not, of32 hlt, show 2 ^ 32 - 1 - sumL l = 4294967295 - sumL l by omega, wrap_u32 (by omega)]; rfl
  simp [v3, hc]
end Go.Proofs.YtkbamkdgiglljaaGreat
