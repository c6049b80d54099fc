/- The check sum of bytes, by the document. -/
import Derived.Test.YtkbamkdgiglljaaGreatOj
namespace Go.Proofs.YtkbamkdgiglljaaGreat
open Go Go.Em
set_option maxRecDepth 100000
def RiI (l : List UInt8) (ix w : Nat) (i : Nat) (s : St) : Prop := ∃ (x : Env 33) (h : Heap) (j : Nat), s = ⟨x.l, h, []⟩ ∧ j + i = 8 ∧ x.v 3 = u4D (itN j w) ∧ x.v 8 = .sl false (bL l) ∧ x.v 9 = D.int l.length ∧ x.v 10 = D.int ix ∧ x.v 6 = D.int j
theorem ri_round (l : List UInt8) (ix w : Nat) (hw : w < 4294967296) : ∀ n, 1 ≤ n → ∀ i s, RiI l ix w i s → Res (k17l0.ev ⟨pg, 33, none⟩ (rc pg n) s) (Rnd (RiI l ix w) (fun x s => x = .exit 2 ∧ RiI l ix w 0 s) i) := by
  rintro n hn i s ⟨x, h, j, rfl, hij, v3, v8, v9, v10, v6⟩
  by_cases hj : j < 8
  · have hlt := itN_lt hw j
    have e1 : itN (j + 1) w = stN (itN j w) := rfl
    obtain ⟨v, hv⟩ : ∃ v, v = itN j w := ⟨_, rfl⟩
    rw [← hv] at v3 hlt e1
    have f1 : bin .shr (.int .u32 (v : Int)) (.int .u64 1) = some (.int .u32 ((v / 2 : Nat) : Int)) := bin_shr32u (n := 1) (by omega)
    have f2 := bin_and32 hlt
    obtain ⟨q, hq⟩ : ∃ q, q = v / 2 := ⟨_, rfl⟩
    rw [← hq] at f1
    have w1 : IntKind.i64.wrap ((j : Int) + 1) = (j : Int) + 1 := wrap_i64 (by omega) (by omega)
    have hj8 : (j : Int) < 8 := by omega
    have hb : v % 2 = 0 ∨ v % 2 = 1 := by omega
    rcases hb with hb | hb
    · have e2 : stN v = q := by unfold stN; rw [hb, hq]; simp
      rw [hb] at f2
      have f2 : bin .and (.int .u32 (v : Int)) (.int .u32 1) = some (.int .u32 0) := f2
      simp [k17l0, v3, v6, hj8, f1, f2, w1]
      exact ⟨i - 1, by omega, _, _, j + 1, rfl, by omega, by simp [e1, e2], by simp [v8], by simp [v9], by simp [v10], by simp⟩
    · have e2 : stN v = q ^^^ 3988292384 := by unfold stN; rw [hb, hq, Nat.mul_one]
      rw [hb] at f2
      have f2 : bin .and (.int .u32 (v : Int)) (.int .u32 1) = some (.int .u32 1) := f2
      have f4 : bin .xor (.int .u32 (q : Int)) (.int .u32 3988292384) = some (.int .u32 ((stN v : Nat) : Int)) := by
        rw [e2]; exact bin_xor32 (a := q) (b := 3988292384) (by omega) (by omega)
      simp [k17l0, v3, v6, hj8, f1, f2, f4, w1]
      exact ⟨i - 1, by omega, _, _, j + 1, rfl, by omega, by simp [e1], by simp [v8], by simp [v9], by simp [v10], by simp⟩
  · obtain rfl : j = 8 := by omega
    simp [k17l0, v6]
    exact ⟨_, _, 8, rfl, by omega, by simp [v3], by simp [v8], by simp [v9], by simp [v10], by simp [v6]⟩
def RoI (l : List UInt8) (i : Nat) (s : St) : Prop := ∃ (x : Env 33) (h : Heap) (j : Nat), s = ⟨x.l, h, []⟩ ∧ j + i = l.length ∧ x.v 3 = u4D (sumL (l.take j)) ∧ x.v 8 = .sl false (bL l) ∧ x.v 9 = D.int l.length ∧ x.v 10 = D.int j
theorem ro_round (l : List UInt8) (hl : l.length ≤ 9000000000000000) : ∀ n, 20 ≤ n → ∀ i s, RoI l i s → Res (k17l1.ev ⟨pg, 33, none⟩ (rc pg n) s) (Rnd (RoI l) (fun x s => x = .exit 0 ∧ RoI l 0 s) i) := by
  rintro n hn i s ⟨x, h, j, rfl, hij, v3, v8, v9, v10⟩
  by_cases hj : j < l.length
  · obtain ⟨b, hb⟩ : ∃ b, l[j] = b := ⟨_, rfl⟩
    have htk : l.take (j + 1) = l.take j ++ [b] := by rw [List.take_add_one, List.getElem?_eq_getElem hj, hb]; rfl
    have hg : (bL l)[j]? = some (u1D b.toNat) := by simp [bL, hb, hj]
    have hlt := sumL_lt (l.take j)
    have e1 : sumL (l.take (j + 1)) = itN 8 (sumL (l.take j) ^^^ b.toNat) := by rw [htk, sumL_snoc]; rfl
    obtain ⟨v, hv⟩ : ∃ v, v = sumL (l.take j) := ⟨_, rfl⟩
    rw [← hv] at v3 hlt e1
    have hb8 := b.toNat_lt
    obtain ⟨c, hc⟩ : ∃ c, c = b.toNat := ⟨_, rfl⟩
    rw [← hc] at hg e1 hb8
    have wc := wrap_u32 (a := c) (by omega)
    have f4 := bin_xor32 (a := v) (b := c) hlt (by omega)
    have hx : v ^^^ c < 4294967296 := Nat.xor_lt_two_pow (n := 32) hlt (by omega)
    obtain ⟨w, hw⟩ : ∃ w, w = v ^^^ c := ⟨_, rfl⟩
    rw [← hw] at f4 hx e1
    have w1 : IntKind.i64.wrap ((j : Int) + 1) = (j : Int) + 1 := wrap_i64 (by omega) (by omega)
    simp [k17l1, v3, v8, v9, v10, hj, hg, wc, f4, ev_loop, D.cells]
    refine Res.yb (lp_rule 1 (RiI l j w) _ (ri_round l j w hx) 8 n _ (by omega) ⟨_, _, 0, rfl, by omega, by simp [itN], by simp [v8], by simp [v9], by simp [v10], by simp⟩) ?_
    rintro y s ⟨rfl, y, h1, j1, rfl, hj1, y3, y8, y9, y10, y6⟩
    obtain rfl : j1 = 8 := by omega
    simp [y10, w1]
    exact ⟨i - 1, by omega, _, _, j + 1, rfl, by omega, by simp [y3, e1], by simp [y8], by simp [y9], by simp⟩
  · obtain rfl : j = l.length := by omega
    simp [k17l1, v9, v10]
    exact ⟨_, _, l.length, rfl, by omega, by simp [v3], by simp [v8], by simp [v9], by simp [v10]⟩
theorem rsum_run {n : Nat} (l : List UInt8) (hl : l.length ≤ 9000000000000000) (hn : l.length + 100 ≤ n) : pureCall (rc pg n) 17 [bD l] = some (.ret (u4D (sumF l))) := by
  obtain ⟨m, rfl, e⟩ := body (pg := pg) (f := 17) (args := [bD l]) (show 0 < n by omega) rfl rfl
  rw [e]
  simp [k17, Env.v_ini, bD, ev_loop, bL_len]
  refine Res.endsAfter (lp_rule 20 (RoI l) _ (ro_round l hl) l.length m _ (by omega) ⟨_, _, 0, rfl, by omega, by simp [sumL], by simp, by simp, by simp⟩) ?_
  rintro x s ⟨rfl, x, h, j, rfl, hj, v3, v8, v9, v10⟩
  obtain rfl : j = l.length := by omega
  rw [List.take_length] at v3
  have hlt := sumL_lt l
  have hc : IntKind.u32.wrap (4294967295 - (sumL l : Int)) = ((sumF l : Nat) : Int) := by
    have e : (4294967295 - (sumL l : Int)) = ((4294967295 - sumL l : Nat) : Int) := by omega
    rw [e]
    exact wrap_u32 (by omega)
  simp [v3, hc]
end Go.Proofs.YtkbamkdgiglljaaGreat
