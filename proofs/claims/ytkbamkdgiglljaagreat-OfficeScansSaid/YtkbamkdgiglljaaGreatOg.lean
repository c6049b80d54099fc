/- Numbers of four bytes, read by the program and by the document. -/
import Derived.Test.YtkbamkdgiglljaaGreatOe
namespace Go.Proofs.YtkbamkdgiglljaaGreat
open Go Go.Em
set_option maxRecDepth 100000
def numL (l : List UInt8) : Nat := l.foldl (fun a b => a * 256 + b.toNat) 0
theorem numL_snoc (l : List UInt8) (b : UInt8) : numL (l ++ [b]) = numL l * 256 + b.toNat := by simp [numL]
theorem numL_lt : ∀ (n : Nat) (l : List UInt8), l.length = n → numL l < 256 ^ n := by
  intro n
  induction n with
  | zero => intro l h; obtain rfl := List.eq_nil_of_length_eq_zero h; simp [numL]
  | succ n ih =>
    intro l h
    have hl : l ≠ [] := by rintro rfl; simp at h
    have := ih l.dropLast (by simp [h])
    have e := numL_snoc l.dropLast (l.getLast hl)
    rw [List.dropLast_concat_getLast hl] at e
    have hb := (l.getLast hl).toNat_lt
    rw [e, Nat.pow_succ]
    omega
def numF (l : List UInt8) : Nat := numL (l.take 4)
theorem numF_lt (l : List UInt8) (h : 4 ≤ l.length) : numF l < 4294967296 := numL_lt 4 _ (by simp; omega)
def NmI (M : List UInt8) (i : Nat) (s : St) : Prop := ∃ (x : Env 20) (h : Heap) (j : Nat), s = ⟨x.l, h, []⟩ ∧ j + i = 4 ∧ x.v 3 = u4D (numL (M.take j)) ∧ x.v 7 = .sl false (bL M) ∧ x.v 8 = D.int 4 ∧ x.v 9 = D.int j
theorem nm_round (M : List UInt8) (hM : M.length = 4) : ∀ n, 1 ≤ n → ∀ i s, NmI M i s → Res (k40l0.ev ⟨pg, 20, none⟩ (rc pg n) s) (Rnd (NmI M) (fun x s => x = .exit 0 ∧ NmI M 0 s) i) := by
  rintro n hn i s ⟨x, h, j, rfl, hij, v3, v7, v8, v9⟩
  by_cases hj : j < 4
  · obtain ⟨b, hb⟩ : ∃ b, M[j]'(by omega) = b := ⟨_, rfl⟩
    have htk : M.take (j + 1) = M.take j ++ [b] := by rw [List.take_add_one, List.getElem?_eq_getElem (by omega), hb]; rfl
    have hlt : numL (M.take j) < 256 ^ j := numL_lt j _ (by simp; omega)
    have hlt2 : (256 : Nat) ^ j ≤ 256 ^ 3 := Nat.pow_le_pow_right (by omega) (by omega)
    obtain ⟨a, ha⟩ : ∃ a, a = numL (M.take j) := ⟨_, rfl⟩
    rw [← ha] at v3 hlt
    have hb8 := b.toNat_lt
    have ha2 : a < 16777216 := by omega
    have sl : bin .shl (.int .u32 (a : Int)) (.int .u64 8) = some (.int .u32 ((a * 256 : Nat) : Int)) := by
      have := bin_shl32 (a := a) (n := 8) (by omega)
      rw [show a * 2 ^ 8 % 4294967296 = a * 256 by omega] at this
      exact this
    obtain ⟨q, hq⟩ : ∃ q, q = a * 256 := ⟨_, rfl⟩
    obtain ⟨c, hc⟩ : ∃ c, c = b.toNat := ⟨_, rfl⟩
    have oq : bin .or (.int .u32 (q : Int)) (.int .u32 (c : Int)) = some (.int .u32 ((q + c : Nat) : Int)) := by
      rw [bin_or32 (by omega) (by omega)]
      have := or_add (a := a) (b := c) (n := 8) (by omega)
      rw [show a * 2 ^ 8 = q by omega] at this
      rw [this]
    rw [← hq] at sl
    have wc := wrap_u32 (a := c) (by omega)
    have w1 : IntKind.i64.wrap ((j : Int) + 1) = (j : Int) + 1 := wrap_i64 (by omega) (by omega)
    have hg : (bL M)[j]? = some (u1D c) := by simp [bL, hb, hc, show j < M.length by omega]
    have hj4 : (j : Int) < 4 := by omega
    simp [k40l0, v3, v7, v8, v9, hj4, hg, sl, oq, wc, w1, D.cells]
    have e3 : numL (M.take (j + 1)) = q + c := by rw [htk, numL_snoc, ← ha, ← hc, hq]
    exact ⟨i - 1, by omega, _, _, j + 1, rfl, by omega, by rw [e3]; simp, by simp [v7], by simp [v8], by simp⟩
  · obtain rfl : j = 4 := by omega
    simp [k40l0, v8, v9]
    exact ⟨_, _, 4, rfl, by omega, by simp [v3], by simp [v7], by simp [v8], by simp [v9]⟩
theorem number_run {n : Nat} (hn : 10 ≤ n) (l : List UInt8) (hl : 4 ≤ l.length) : pureCall (rc pg n) 40 [bD l] = some (.ret (u4D (numF l))) := by
  obtain ⟨m, rfl, e⟩ := body (pg := pg) (f := 40) (args := [bD l]) (show 0 < n by omega) rfl rfl
  rw [e]
  have h1 : (bL l).take 4 = bL (l.take 4) := bL_take l 4
  have h2 : (4 : Int) ≤ (l.length : Int) := by omega
  have h3 : (l.take 4).length = 4 := by simp; omega
  have h4 : min 4 l.length = 4 := by omega
  simp [k40, Env.v_ini, bD, ev_loop, h1, h2, head_bL, bL_len, h4]
  refine Res.endsAfter (lp_rule 1 (NmI (l.take 4)) _ (nm_round (l.take 4) h3) 4 m _ (by omega) ⟨_, _, 0, rfl, by omega, by simp [numL], by simp, by simp, by simp⟩) ?_
  rintro x s ⟨rfl, x, h, j, rfl, hj, v3, v7, v8, v9⟩
  obtain rfl : j = 4 := by omega
  rw [List.take_of_length_le (by omega)] at v3
  simp [v3, numF]
theorem numF_cons (b0 b1 b2 b3 : UInt8) (r : List UInt8) : numF (b0 :: b1 :: b2 :: b3 :: r) = ((b0.toNat * 256 + b1.toNat) * 256 + b2.toNat) * 256 + b3.toNat := by
  simp [numF, numL]
theorem uncons {α : Type} {l : List α} {n : Nat} (h : n + 1 ≤ l.length) : ∃ b r, l = b :: r ∧ n ≤ r.length := by
  cases l with
  | nil => simp at h
  | cons b r => exact ⟨b, r, rfl, by simpa using h⟩
theorem rnumber_run {n : Nat} (hn : 1 ≤ n) (l : List UInt8) (hl : 4 ≤ l.length) : pureCall (rc pg n) 42 [bD l] = some (.ret (D.int (numF l))) := by
  obtain ⟨m, rfl, e⟩ := body (pg := pg) (f := 42) (args := [bD l]) (show 0 < n by omega) rfl rfl
  rw [e]
  obtain ⟨b0, b1, b2, b3, r, rfl⟩ : ∃ b0 b1 b2 b3 r, l = b0 :: b1 :: b2 :: b3 :: r := by
    obtain ⟨b0, l1, h1, hl1⟩ := uncons (n := 3) hl
    obtain ⟨b1, l2, h2, hl2⟩ := uncons (n := 2) hl1
    obtain ⟨b2, l3, h3, hl3⟩ := uncons (n := 1) hl2
    obtain ⟨b3, l4, h4, hl4⟩ := uncons (n := 0) hl3
    exact ⟨b0, b1, b2, b3, l4, by rw [h1, h2, h3, h4]⟩
  rw [numF_cons]
  have q0 := b0.toNat_lt
  have q1 := b1.toNat_lt
  have q2 := b2.toNat_lt
  have q3 := b3.toNat_lt
  simp only [bD, bL, List.map_cons]
  generalize b0.toNat = c0 at *
  generalize b1.toNat = c1 at *
  generalize b2.toNat = c2 at *
  generalize b3.toNat = c3 at *
  have w := fun (c : Nat) (h : c < 2 ^ 8) => wrap_i64n (a := c) (by omega)
  have s24 : bin .shl (.int .i64 (c0 : Int)) (.int .u64 24) = some (.int .i64 ((c0 * 16777216 : Nat) : Int)) := bin_shl64 (n := 24) (by omega) (by omega)
  have s16 : bin .shl (.int .i64 (c1 : Int)) (.int .u64 16) = some (.int .i64 ((c1 * 65536 : Nat) : Int)) := bin_shl64 (n := 16) (by omega) (by omega)
  have s8 : bin .shl (.int .i64 (c2 : Int)) (.int .u64 8) = some (.int .i64 ((c2 * 256 : Nat) : Int)) := bin_shl64 (n := 8) (by omega) (by omega)
  have o1 : bin .or (.int .i64 ((c0 * 16777216 : Nat) : Int)) (.int .i64 ((c1 * 65536 : Nat) : Int)) = some (.int .i64 ((c0 * 16777216 + c1 * 65536 : Nat) : Int)) := by
    rw [bin_or64 (by omega) (by omega)]
    have := or_add (a := c0) (b := c1 * 65536) (n := 24) (by omega)
    rw [show c0 * 2 ^ 24 = c0 * 16777216 by omega] at this
    rw [this]
  have o2 : bin .or (.int .i64 ((c0 * 16777216 + c1 * 65536 : Nat) : Int)) (.int .i64 ((c2 * 256 : Nat) : Int)) = some (.int .i64 ((c0 * 16777216 + c1 * 65536 + c2 * 256 : Nat) : Int)) := by
    rw [bin_or64 (by omega) (by omega)]
    have := or_add (a := c0 * 256 + c1) (b := c2 * 256) (n := 16) (by omega)
    rw [show (c0 * 256 + c1) * 2 ^ 16 = c0 * 16777216 + c1 * 65536 by omega] at this
    rw [this]
  have o3 : bin .or (.int .i64 ((c0 * 16777216 + c1 * 65536 + c2 * 256 : Nat) : Int)) (.int .i64 (c3 : Int)) = some (.int .i64 ((c0 * 16777216 + c1 * 65536 + c2 * 256 + c3 : Nat) : Int)) := by
    rw [bin_or64 (by omega) (by omega)]
    have := or_add (a := c0 * 65536 + c1 * 256 + c2) (b := c3) (n := 8) (by omega)
    rw [show (c0 * 65536 + c1 * 256 + c2) * 2 ^ 8 = c0 * 16777216 + c1 * 65536 + c2 * 256 by omega] at this
    rw [this]
  rw [show ((c0 * 256 + c1) * 256 + c2) * 256 + c3 = c0 * 16777216 + c1 * 65536 + c2 * 256 + c3 by omega]
  obtain ⟨r0, e0⟩ : ∃ q, q = c0 * 16777216 := ⟨_, rfl⟩
  obtain ⟨r1, e1⟩ : ∃ q, q = c1 * 65536 := ⟨_, rfl⟩
  obtain ⟨r2, e2⟩ : ∃ q, q = c2 * 256 := ⟨_, rfl⟩
  rw [← e0] at s24 o1 o2 o3 ⊢
  rw [← e1] at s16 o1 o2 o3 ⊢
  rw [← e2] at s8 o2 o3 ⊢
  obtain ⟨t1, f1⟩ : ∃ q, q = r0 + r1 := ⟨_, rfl⟩
  rw [← f1] at o1 o2 o3 ⊢
  obtain ⟨t2, f2⟩ : ∃ q, q = t1 + r2 := ⟨_, rfl⟩
  rw [← f2] at o2 o3 ⊢
  obtain ⟨t3, f3⟩ : ∃ q, q = t2 + c3 := ⟨_, rfl⟩
  rw [← f3] at o3 ⊢
  simp [k42, Env.v_ini, w c0 q0, w c1 q1, w c2 q2, w c3 q3, s24, s16, s8, o1, o2, o3, D.cells]
theorem place_run {n : Nat} (hn : 20 ≤ n) (b : UInt8) (l : List UInt8) (hl : 4 ≤ l.length) : pureCall (rc pg n) 41 [bD (b :: l)] = some (.ret (plD b.toNat (numF l))) := by
  obtain ⟨m, rfl, e⟩ := body (pg := pg) (f := 41) (args := [bD (b :: l)]) (show 0 < n by omega) rfl rfl
  rw [e]
  have cn := number_run (n := m) (by omega) l hl
  have s40 : pg.sh 40 = false := rfl
  have q0 := b.toNat_lt
  have hlt := numF_lt l hl
  simp only [bD, bL, List.map_cons, plD] at cn ⊢
  generalize b.toNat = c at *
  generalize numF l = a at *
  have w1 := wrap_i64n (a := c) (by omega)
  have w2 := wrap_i64n (a := a) (by omega)
  have hcan : D.canonL (List.map (fun b : UInt8 => u1D b.toNat) l) = true := bL_can l
  have hl1 : (1 : Int) ≤ (l.length : Int) + 1 := by omega
  have htk : List.take l.length (List.map (fun b : UInt8 => u1D b.toNat) l) = List.map (fun b : UInt8 => u1D b.toNat) l := List.take_of_length_le (by simp)
  simp [k41, Env.v_ini, hl1, htk, cn, dcore_f, s40, w1, w2, hcan, headOk, sliceR, D.cells, D.one, Value.oneCell']
end Go.Proofs.YtkbamkdgiglljaaGreat
