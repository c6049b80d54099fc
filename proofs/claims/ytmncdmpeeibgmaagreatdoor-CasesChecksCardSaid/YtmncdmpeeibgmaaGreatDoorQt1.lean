/- The library's sort: the words of breakPatterns. -/
import Derived.Test.YtmncdmpeeibgmaaGreatDoorQs6
namespace Go.Proofs.YtmncdmpeeibgmaaGreatDoor
open Go Go.Em
set_option maxRecDepth 100000
set_option linter.unusedSectionVars false
variable [Tl]
theorem w_shl13 (a : Nat) : bin .shl (.int .u64 (a : Int)) (.int .u64 13) = some (.int .u64 (((a * 8192) % 18446744073709551616 : Nat) : Int)) := by
  have h : bin .shl (.int .u64 (a : Int)) (.int .u64 13) = some (.int .u64 (IntKind.u64.wrap ((a : Int) * 2 ^ 13))) := rfl
  rw [h, show (a : Int) * 2 ^ 13 = ((a * 8192 : Nat) : Int) by simp, wrap_nat]
theorem w_shl17 (a : Nat) : bin .shl (.int .u64 (a : Int)) (.int .u64 17) = some (.int .u64 (((a * 131072) % 18446744073709551616 : Nat) : Int)) := by
  have h : bin .shl (.int .u64 (a : Int)) (.int .u64 17) = some (.int .u64 (IntKind.u64.wrap ((a : Int) * 2 ^ 17))) := rfl
  rw [h, show (a : Int) * 2 ^ 17 = ((a * 131072 : Nat) : Int) by simp, wrap_nat]
theorem w_xor {a b : Nat} (ha : a < 2 ^ 64) (hb : b < 2 ^ 64) : bin .xor (.int .u64 (a : Int)) (.int .u64 (b : Int)) = some (.int .u64 ((a ^^^ b : Nat) : Int)) := by
  show some (Value.int .u64 (IntKind.u64.wrap ((BitVec.ofInt 64 (a : Int) ^^^ BitVec.ofInt 64 (b : Int)).toNat : Int))) = _
  rw [BitVec.toNat_xor, toNat_of ha, toNat_of hb, wrap_u64 (by omega) (by have := Nat.xor_lt_two_pow ha hb; omega)]
theorem w_shr7 (a : Nat) : bin .shr (.int .u64 (a : Int)) (.int .u64 7) = some (.int .u64 ((a / 128 : Nat) : Int)) := by
  have h : bin .shr (.int .u64 (a : Int)) (.int .u64 7) = some (.int .u64 ((a : Int).fdiv (2 ^ 7))) := rfl
  rw [h]
  congr 2
  rw [Int.fdiv_eq_ediv_of_nonneg _ (by omega)]
  simp
def xs (w : Nat) : Nat :=
  let a := w ^^^ (w * 8192 % 18446744073709551616)
  let b := a ^^^ (a / 128)
  b ^^^ (b * 131072 % 18446744073709551616)
theorem xs_lt {w : Nat} (h : w < 2 ^ 64) : xs w < 2 ^ 64 := by
  have h1 : w ^^^ (w * 8192 % 18446744073709551616) < 2 ^ 64 := Nat.xor_lt_two_pow h (by omega)
  have h2 := Nat.xor_lt_two_pow h1 (show (w ^^^ (w * 8192 % 18446744073709551616)) / 128 < 2 ^ 64 by omega)
  exact Nat.xor_lt_two_pow h2 (by omega)
structure SW (kb : Nat) (d : Array Int) (sb : Nat) (S : Blk) (h0 h : Heap) : Prop where
  sd : SD kb d h0 h
  s : h.get sb = some S
  lo : h0.next ≤ sb
  hi : sb < h.next
theorem SW.ne {kb : Nat} {d : Array Int} {sb : Nat} {S : Blk} {h0 h : Heap} (w : SW kb d sb S h0 h) : kb ≠ sb := by have := w.sd.k; have := w.lo; omega
theorem SW.bump {kb : Nat} {d : Array Int} {sb : Nat} {S : Blk} {h0 h : Heap} (w : SW kb d sb S h0 h) (z : Nat) : SW kb d sb S h0 (h.bump z) :=
  ⟨w.sd.bump z, by simp [w.s], w.lo, by have := w.hi; simp; omega⟩
theorem SW.setS {kb : Nat} {d : Array Int} {sb : Nat} {S : Blk} {h0 h : Heap} (w : SW kb d sb S h0 h) (X : Blk) (hX : Heap.pl (some X) = some X := by rfl) : SW kb d sb X h0 (h.set sb (some X)) := by
  have hne := w.ne
  refine ⟨⟨by simp [hne, w.sd.g], fun q h1 h2 => ?_, by have := w.sd.n; simpa using this, w.sd.k, w.sd.fr.set _ w.hi⟩, by simp [hX], w.lo, by simpa using w.hi⟩
  have : q ≠ sb := by have := w.lo; omega
  simp [this, w.sd.u q h1 h2]
theorem SW.new {kb : Nat} {d : Array Int} {h0 h : Heap} (w : SD kb d h0 h) {sb : Nat} (h1 : h0.next ≤ sb) (h2 : sb < h.next) (X : Blk) (hX : Heap.pl (some X) = some X := by rfl) : SW kb d sb X h0 (h.set sb (some X)) := by
  have hne : kb ≠ sb := by have := w.k; omega
  refine ⟨⟨by simp [hne, w.g], fun q h3 h4 => ?_, by have := w.n; simpa using this, w.k, w.fr.set _ h2⟩, by simp [hX], h1, by simpa using h2⟩
  have : q ≠ sb := by omega
  simp [this, w.u q h3 h4]
theorem SW.two {kb : Nat} {d : Array Int} {sb : Nat} {S : Blk} {h0 h : Heap} (w : SW kb d sb S h0 h) {L L' : List D} {d' : Array Int} {i : Nat} {v : Int} (e : L = dl (d.setIfInBounds i v)) (e' : L' = dl d') : SW kb d' sb S h0 ((h.set kb (some (.cells 3 L))).set kb (some (.cells 3 L'))) :=
  ⟨w.sd.two e e', by simp [Ne.symm w.ne, w.s], w.lo, by simpa using w.hi⟩
set_option maxHeartbeats 8000000 in
theorem xor_sh {kb : Nat} {d : Array Int} {wb w : Nat} (hw : w < 2 ^ 64) {h0 h : Heap} (W : SW kb d wb (.cells 159 [wordD w]) h0 h) {n : Nat} (hn : 1 ≤ n) : ∃ h' : Heap, (rc pg n).fn 116 [.ptr wb 0] h = some (.ret (wordD (xs w)), h') ∧ SW kb d wb (.cells 159 [wordD (xs w)]) h0 h' := by
  have hg := W.s
  obtain ⟨m, rfl, e⟩ := fn_body (pg := pg) (f := 116) (args := [.ptr wb 0]) (h := h) (show 0 < n by omega) rfl rfl
  rw [e]
  obtain ⟨a1, h1⟩ : ∃ a1, a1 = w * 8192 % 18446744073709551616 := ⟨_, rfl⟩
  have s1 := w_shl13 w
  rw [← h1] at s1
  have x1 := w_xor hw (show a1 < 2 ^ 64 by omega)
  obtain ⟨b, hb⟩ : ∃ b, b = w ^^^ a1 := ⟨_, rfl⟩
  have hb2 : b < 2 ^ 64 := by rw [hb]; exact Nat.xor_lt_two_pow hw (by omega)
  rw [← hb] at x1
  obtain ⟨b1, h2⟩ : ∃ b1, b1 = b / 128 := ⟨_, rfl⟩
  have s2 := w_shr7 b
  rw [← h2] at s2
  have x2 := w_xor hb2 (show b1 < 2 ^ 64 by omega)
  obtain ⟨c, hc⟩ : ∃ c, c = b ^^^ b1 := ⟨_, rfl⟩
  have hc2 : c < 2 ^ 64 := by rw [hc]; exact Nat.xor_lt_two_pow hb2 (by omega)
  rw [← hc] at x2
  obtain ⟨c1, h3⟩ : ∃ c1, c1 = c * 131072 % 18446744073709551616 := ⟨_, rfl⟩
  have s3 := w_shl17 c
  rw [← h3] at s3
  have x3 := w_xor hc2 (show c1 < 2 ^ 64 by omega)
  have hxs : xs w = c ^^^ c1 := by rw [h3, hc, h2, hb, h1]; rfl
  rw [hxs]
  obtain ⟨r, hr⟩ : ∃ r, r = c ^^^ c1 := ⟨_, rfl⟩
  rw [← hr] at x3 ⊢
  simp [k116, Env.v_ini, D.cells, D.one, hg, s1, s2, s3, x1, x2, x3]
  exact (((((((W.bump 33).bump 33).setS (.cells 159 [wordD b])).bump 33).setS (.cells 159 [wordD c])).bump 33).setS (.cells 159 [wordD r])).bump 33
end Go.Proofs.YtmncdmpeeibgmaaGreatDoor
/- The library's sort: the length of a word; the next power of two. -/
namespace Go.Proofs.YtmncdmpeeibgmaaGreatDoor
open Go Go.Em
set_option maxRecDepth 100000
set_option linter.unusedSectionVars false
variable [Tl]
def tabL : List UInt8 := [0, 1, 2, 2, 3, 3, 3, 3, 4, 4, 4, 4, 4, 4, 4, 4, 5, 5, 5, 5, 5, 5, 5, 5, 5, 5, 5, 5, 5, 5, 5, 5, 6, 6, 6, 6, 6, 6, 6, 6, 6, 6, 6, 6, 6, 6, 6, 6, 6, 6, 6, 6, 6, 6, 6, 6, 6, 6, 6, 6, 6, 6, 6, 6, 7, 7, 7, 7, 7, 7, 7, 7, 7, 7, 7, 7, 7, 7, 7, 7, 7, 7, 7, 7, 7, 7, 7, 7, 7, 7, 7, 7, 7, 7, 7, 7, 7, 7, 7, 7, 7, 7, 7, 7, 7, 7, 7, 7, 7, 7, 7, 7, 7, 7, 7, 7, 7, 7, 7, 7, 7, 7, 7, 7, 7, 7, 7, 7, 8, 8, 8, 8, 8, 8, 8, 8, 8, 8, 8, 8, 8, 8, 8, 8, 8, 8, 8, 8, 8, 8, 8, 8, 8, 8, 8, 8, 8, 8, 8, 8, 8, 8, 8, 8, 8, 8, 8, 8, 8, 8, 8, 8, 8, 8, 8, 8, 8, 8, 8, 8, 8, 8, 8, 8, 8, 8, 8, 8, 8, 8, 8, 8, 8, 8, 8, 8, 8, 8, 8, 8, 8, 8, 8, 8, 8, 8, 8, 8, 8, 8, 8, 8, 8, 8, 8, 8, 8, 8, 8, 8, 8, 8, 8, 8, 8, 8, 8, 8, 8, 8, 8, 8, 8, 8, 8, 8, 8, 8, 8, 8, 8, 8, 8, 8, 8, 8, 8, 8, 8, 8, 8, 8, 8, 8, 8, 8]
theorem tab_ok : ∀ y, y < 256 → 1 ≤ y → (tabL[y]?).any (fun c => decide (2 ^ c.toNat ≤ 2 * y) && decide (c.toNat ≤ 8)) = true := by decide
theorem tab_at {y : Nat} (h : y < 256) (h1 : 1 ≤ y) : ∃ c : UInt8, tabL[y]? = some c ∧ 2 ^ c.toNat ≤ 2 * y ∧ c.toNat ≤ 8 := by
  have := tab_ok y h h1
  cases hc : tabL[y]? with
  | none => rw [hc] at this; cases this
  | some c =>
    rw [hc] at this
    simp at this
    exact ⟨c, rfl, this⟩
theorem w_shr8 (a : Nat) : bin .shr (.int .u64 (a : Int)) (.int .u64 8) = some (.int .u64 ((a / 256 : Nat) : Int)) := by
  have h : bin .shr (.int .u64 (a : Int)) (.int .u64 8) = some (.int .u64 ((a : Int).fdiv (2 ^ 8))) := rfl
  rw [h]; congr 2; rw [Int.fdiv_eq_ediv_of_nonneg _ (by omega)]; simp
theorem w_shr16 (a : Nat) : bin .shr (.int .u64 (a : Int)) (.int .u64 16) = some (.int .u64 ((a / 65536 : Nat) : Int)) := by
  have h : bin .shr (.int .u64 (a : Int)) (.int .u64 16) = some (.int .u64 ((a : Int).fdiv (2 ^ 16))) := rfl
  rw [h]; congr 2; rw [Int.fdiv_eq_ediv_of_nonneg _ (by omega)]; simp
theorem wrap_u8 {a : Nat} (h : a < 256) : IntKind.u8.wrap (a : Int) = (a : Int) := by
  have e1 : (2 : Int) ^ IntKind.u8.bits = 256 := by decide
  simp only [IntKind.wrap, IntKind.signed, e1, Bool.false_and]
  simp
  omega
set_option maxHeartbeats 8000000 in
theorem len_run (x : Nat) (hx1 : 1 ≤ x) (hx : x ≤ 1000000) {n : Nat} (hn : 1 ≤ n) : ∃ L : Nat, L ≤ 60 ∧ 2 ^ L ≤ 2 * x ∧ pureCall (rc pg n) 90 [wordD x] = some (.ret (D.int L)) := by
  obtain ⟨m, rfl, e⟩ := body (pg := pg) (f := 90) (args := [wordD x]) (show 0 < n by omega) rfl rfl
  rw [e]
  have q1 : ¬ ((4294967296 : Int) ≤ (x : Int)) := by omega
  by_cases h16 : 65536 ≤ x
  · have q2 : ((65536 : Int) ≤ (x : Int)) := by omega
    obtain ⟨y, hy⟩ : ∃ y, y = x / 65536 := ⟨_, rfl⟩
    have s1 := w_shr16 x
    rw [← hy] at s1
    have q3 : ¬ ((256 : Int) ≤ (y : Int)) := by omega
    have q3' : ¬ (256 ≤ y) := by omega
    obtain ⟨c, hc, hc1, hc2⟩ := tab_at (y := y) (by omega) (by omega)
    unfold tabL at hc
    have hw := wrap_u8 (a := y) (by omega)
    have w1 : IntKind.i64.wrap (c.toNat : Int) = (c.toNat : Int) := wn rfl (by omega)
    have w2 : IntKind.i64.wrap (16 + (c.toNat : Int)) = ((16 + c.toNat : Nat) : Int) := wn (by omega) (by omega)
    have w3 : IntKind.i64.wrap 16 = 16 := by decide
    refine ⟨16 + c.toNat, by omega, by rw [Nat.pow_add]; omega, ?_⟩
    simp [k90, Env.v_ini, q1, q2, q3, s1, hw, hc, w1, w2, w3]
  · have q2 : ¬ ((65536 : Int) ≤ (x : Int)) := by omega
    by_cases h8 : 256 ≤ x
    · have q3 : ((256 : Int) ≤ (x : Int)) := by omega
      obtain ⟨y, hy⟩ : ∃ y, y = x / 256 := ⟨_, rfl⟩
      have s1 := w_shr8 x
      rw [← hy] at s1
      obtain ⟨c, hc, hc1, hc2⟩ := tab_at (y := y) (by omega) (by omega)
      unfold tabL at hc
      have hw := wrap_u8 (a := y) (by omega)
      have w1 : IntKind.i64.wrap (c.toNat : Int) = (c.toNat : Int) := wn rfl (by omega)
      have w2 : IntKind.i64.wrap (8 + (c.toNat : Int)) = ((8 + c.toNat : Nat) : Int) := wn (by omega) (by omega)
      have w3 : IntKind.i64.wrap 8 = 8 := by decide
      refine ⟨8 + c.toNat, by omega, by rw [Nat.pow_add]; omega, ?_⟩
      simp [k90, Env.v_ini, q1, q2, q3, s1, hw, hc, w1, w2, w3]
    · have q3 : ¬ ((256 : Int) ≤ (x : Int)) := by omega
      obtain ⟨c, hc, hc1, hc2⟩ := tab_at (y := x) (by omega) (by omega)
      unfold tabL at hc
      have hw := wrap_u8 (a := x) (by omega)
      have w1 : IntKind.i64.wrap (c.toNat : Int) = (c.toNat : Int) := wn rfl (by omega)
      refine ⟨c.toNat, by omega, by omega, ?_⟩
      simp [k90, Env.v_ini, q1, q2, q3, hw, hc, w1]
theorem lenw_run (x : Nat) (hx1 : 1 ≤ x) (hx : x ≤ 1000000) {n : Nat} (hn : 2 ≤ n) : ∃ L : Nat, L ≤ 60 ∧ 2 ^ L ≤ 2 * x ∧ pureCall (rc pg n) 59 [wordD x] = some (.ret (D.int L)) := by
  obtain ⟨m, rfl, e⟩ := body (pg := pg) (f := 59) (args := [wordD x]) (show 0 < n by omega) rfl rfl
  rw [e]
  obtain ⟨L, h1, h2, h3⟩ := len_run x hx1 hx (n := m) (by omega)
  have c := fun h => call_of (h := h) (pg := pg) (f := 90) rfl rfl h3
  exact ⟨L, h1, h2, by simp [k59, Env.v_ini, c]⟩
theorem pow_run (x : Nat) (hx1 : 1 ≤ x) (hx : x ≤ 1000000) {n : Nat} (hn : 3 ≤ n) : ∃ L : Nat, L ≤ 60 ∧ 2 ^ L ≤ 2 * x ∧ pureCall (rc pg n) 115 [D.int x] = some (.ret (wordD (2 ^ L))) := by
  obtain ⟨m, rfl, e⟩ := body (pg := pg) (f := 115) (args := [D.int x]) (show 0 < n by omega) rfl rfl
  rw [e]
  obtain ⟨L, h1, h2, h3⟩ := lenw_run x hx1 hx (n := m) (by omega)
  have c := fun h => call_of (h := h) (pg := pg) (f := 59) rfl rfl h3
  have s := bin_shl64 (n := L) (by omega)
  have w1 : IntKind.u64.wrap (x : Int) = (x : Int) := wrap_u64 (by omega) (by omega)
  obtain ⟨p, hp⟩ : ∃ p, p = 2 ^ L := ⟨_, rfl⟩
  rw [← hp] at s h2
  exact ⟨L, h1, by rw [← hp]; exact h2, by rw [← hp]; simp [k115, Env.v_ini, w1, c, s]⟩
end Go.Proofs.YtmncdmpeeibgmaaGreatDoor
/- The library's sort: the patterns are broken: some permutation. -/
namespace Go.Proofs.YtmncdmpeeibgmaaGreatDoor
open Go Go.Em
set_option maxRecDepth 100000
set_option linter.unusedSectionVars false
variable [Tl]
def qBP (d0 : Array Int) (a b q M kb wb N : Nat) (cap : Option Nat) (h0 : Heap) (k : Nat) (s : St) : Prop := ∃ (x : Env 65) (h : Heap) (d : Array Int) (w idx : Nat), s = ⟨x.l, h, []⟩ ∧ a + q * 2 + 2 ≤ idx + k ∧ x.v 0 = .slr kb 0 N 1 cap ∧ x.v 1 = D.int a ∧ x.v 6 = D.int ((b - a : Nat) : Int) ∧ x.v 7 = .ptr wb 0 ∧ x.v 8 = wordD M ∧ x.v 9 = D.int idx ∧ a ≤ idx ∧ idx ≤ a + q * 2 + 2 ∧ w < 2 ^ 64 ∧ SW kb d wb (.cells 159 [wordD w]) h0 h ∧ d.size = N ∧ Go.Sort.PermIn a b d0 d
def qBrQ (d0 : Array Int) (a b kb N : Nat) (h0 : Heap) (s : St) : Prop := ∃ (x : Env 65) (h : Heap) (d : Array Int), s = ⟨x.l, h, []⟩ ∧ SD kb d h0 h ∧ d.size = N ∧ Go.Sort.PermIn a b d0 d
set_option maxHeartbeats 8000000 in
theorem bp_round (d0 : Array Int) (a b q M kb wb N : Nat) (hN : N ≤ 1000000) (hb : b ≤ N) (h8 : 8 ≤ b - a) (hq : q = (b - a) / 4) (hM1 : 1 ≤ M) (hM : M ≤ 2 * (b - a)) (cap : Option Nat) (h0 : Heap) : ∀ n, 2 ≤ n → ∀ k s, qBP d0 a b q M kb wb N cap h0 k s → Res (k82l0.ev ⟨pg, 65, none⟩ (rc pg n) s) (Rnd (qBP d0 a b q M kb wb N cap h0) (fun x s => x = .exit 0 ∧ qBrQ d0 a b kb N h0 s) k) := by
  rintro n hn k s ⟨x, h, d, w, idx, rfl, hk, v0, v1, v6, v7, v8, v9, hai, hi2, hw, W, hd, hP⟩
  obtain ⟨len, hlen⟩ : ∃ len, len = b - a := ⟨_, rfl⟩
  rw [← hlen] at v6 hq hM h8
  obtain ⟨q2, hq2⟩ : ∃ q2, q2 = q * 2 := ⟨_, rfl⟩
  obtain ⟨md, hmd⟩ : ∃ md, md = a + q2 := ⟨_, rfl⟩
  have w0 : bin .quo (.int .i64 (len : Int)) (.int .i64 4) = some (.int .i64 (q : Int)) := by
    rw [bin_quo (by omega), wn (m := q) (by rw [hq, Int.tdiv_eq_ediv_of_nonneg (by omega)]; omega) (by omega)]
  have w1 : IntKind.i64.wrap ((q : Int) * 2) = (q2 : Int) := wn (by omega) (by omega)
  have w2 : IntKind.i64.wrap ((a : Int) + (q2 : Int)) = (md : Int) := wn (by omega) (by omega)
  have w3 : IntKind.i64.wrap ((md : Int) + 1) = ((md + 1 : Nat) : Int) := wn (by omega) (by omega)
  obtain ⟨m1, hm1⟩ : ∃ m1, m1 = md + 1 := ⟨_, rfl⟩
  rw [← hm1] at w3
  by_cases hc : idx ≤ m1
  · have w4 : IntKind.i64.wrap ((idx : Int) + 1) = ((idx + 1 : Nat) : Int) := wn (by omega) (by omega)
    have w5 : IntKind.u64.wrap ((M : Int) - 1) = ((M - 1 : Nat) : Int) := by rw [wrap_u64 (by omega) (by omega)]; omega
    obtain ⟨M1, hM1'⟩ : ∃ M1, M1 = M - 1 := ⟨_, rfl⟩
    rw [← hM1'] at w5
    have hx := xs_lt hw
    obtain ⟨r, hr⟩ : ∃ r, r = xs w := ⟨_, rfl⟩
    rw [← hr] at hx
    have s1 := bin_and64 hx (show M1 < 2 ^ 64 by omega)
    obtain ⟨ot, hot⟩ : ∃ ot, ot = r &&& M1 := ⟨_, rfl⟩
    have hotl : ot ≤ M1 := by rw [hot]; exact Nat.and_le_right
    rw [← hot] at s1
    have w6 : IntKind.i64.wrap (ot : Int) = (ot : Int) := wn rfl (by omega)
    obtain ⟨H, hH⟩ : ∃ H, H = (h.bump 65).bump 65 := ⟨_, rfl⟩
    have WH : SW kb d wb (.cells 159 [wordD w]) h0 H := hH ▸ (W.bump 65).bump 65
    obtain ⟨h', c, W'⟩ := xor_sh hw WH (n := n) (by omega)
    rw [← hr] at c W'
    have cs := call_sh (pg := pg) (f := 116) rfl c
    have g := W'.sd.g
    obtain ⟨o2, ho2⟩ : ∃ o2, o2 = if len ≤ ot then ot - len else ot := ⟨_, rfl⟩
    have ho2l : o2 < len := by rw [ho2]; split <;> omega
    obtain ⟨p, hp⟩ : ∃ p, p = a + o2 := ⟨_, rfl⟩
    have w7 : IntKind.i64.wrap ((a : Int) + (o2 : Int)) = (p : Int) := wn (by omega) (by omega)
    have hpN : p < d.size := by omega
    have hiN : idx < d.size := by omega
    have l1 : p < N := by omega
    have l2 : idx < N := by omega
    have l3 : p + 1 ≤ N := by omega
    have l4 : idx + 1 ≤ N := by omega
    obtain ⟨C, C1, C2, va, vb, hC, hl, hl1, hl2, f1, f2, e1, e2, p1, p2, c1, c2, y1, y2⟩ := swp_facts hiN hpN
    rw [← hC] at g
    have hP' : Go.Sort.PermIn a b d0 (Go.Sort.swp d idx p) := Go.Sort.permIn_trans _ _ _ a b hP (Go.Sort.swp_permIn d a b idx p hai (by omega) (by omega) (by omega) (by omega))
    by_cases hge : len ≤ ot
    · have w8 : IntKind.i64.wrap ((ot : Int) - (len : Int)) = (o2 : Int) := by rw [ho2, if_pos hge]; exact wn (by omega) (by omega)
      simp [k82l0, v0, v1, v6, v7, v8, v9, w0, w1, w2, w3, w4, w5, w6, w7, w8, s1, hc, hge, ← hH, cs, D.cells, D.one, g, hl, hl1, hd, e1, e2, p1, p2, l1, l2, l3, l4]
      exact ⟨k - 1, by omega, _, _, _, r, idx + 1, rfl, by omega, by simp [v0], by simp [v1], by simp [v6, hlen], by simp [v7], by simp [v8], by simp, by omega, by omega, hx, by repeat' first | exact W' | refine SW.bump ?_ _ | refine SW.two ?_ c1 c2, swp_size d idx p hd, hP'⟩
    · have ho : o2 = ot := by rw [ho2, if_neg hge]
      rw [ho] at w7
      simp [k82l0, v0, v1, v6, v7, v8, v9, w0, w1, w2, w3, w4, w5, w6, w7, s1, hc, hge, ← hH, cs, D.cells, D.one, g, hl, hl1, hd, e1, e2, p1, p2, l1, l2, l3, l4]
      exact ⟨k - 1, by omega, _, _, _, r, idx + 1, rfl, by omega, by simp [v0], by simp [v1], by simp [v6, hlen], by simp [v7], by simp [v8], by simp, by omega, by omega, hx, by repeat' first | exact W' | refine SW.bump ?_ _ | refine SW.two ?_ c1 c2, swp_size d idx p hd, hP'⟩
  · simp [k82l0, v1, v6, v9, w0, w1, w2, w3, hc]
    exact ⟨_, _, _, rfl, W.sd.bump _, hd, hP⟩
set_option maxHeartbeats 8000000 in
theorem brk_sh {kb : Nat} {d : Array Int} {h : Heap} (hg : h.get kb = some (.cells 3 (dl d))) (hk : kb < h.next) (hf : h.Fr) {N : Nat} (hd : d.size = N) (hN : N ≤ 1000000) (cap : Option Nat) {a b : Nat} (h8 : 8 ≤ b - a) (hb : b ≤ N) {n : Nat} (hn : 60 ≤ n) :
    ∃ h' d', (rc pg n).fn 82 [.slr kb 0 N 1 cap, D.int a, D.int b] h = some (.ret (.tup []), h') ∧ SD kb d' h h' ∧ d'.size = N ∧ Go.Sort.PermIn a b d d' := by
  obtain ⟨m, rfl, e⟩ := fn_body (pg := pg) (f := 82) (args := [.slr kb 0 N 1 cap, D.int a, D.int b]) (h := h) (show 0 < n by omega) rfl rfl
  rw [e]
  have sd := SD.refl hg hk hf
  have hfr : ∀ j, h.raw (h.next + j) = none := fun j => hf _ (by omega)
  obtain ⟨len, hlen⟩ : ∃ len, len = b - a := ⟨_, rfl⟩
  rw [← hlen] at h8
  obtain ⟨q, hq⟩ : ∃ q, q = len / 4 := ⟨_, rfl⟩
  obtain ⟨q2, hq2⟩ : ∃ q2, q2 = q * 2 := ⟨_, rfl⟩
  obtain ⟨md, hmd⟩ : ∃ md, md = a + q2 := ⟨_, rfl⟩
  have w0 : bin .quo (.int .i64 (len : Int)) (.int .i64 4) = some (.int .i64 (q : Int)) := by
    rw [bin_quo (by omega), wn (m := q) (by rw [hq, Int.tdiv_eq_ediv_of_nonneg (by omega)]; omega) (by omega)]
  have w1 : IntKind.i64.wrap ((q : Int) * 2) = (q2 : Int) := wn (by omega) (by omega)
  have w2 : IntKind.i64.wrap ((a : Int) + (q2 : Int)) = (md : Int) := wn (by omega) (by omega)
  have w3 : IntKind.i64.wrap ((md : Int) - 1) = ((md - 1 : Nat) : Int) := wn (by omega) (by omega)
  have w4 : IntKind.i64.wrap ((b : Int) - (a : Int)) = (len : Int) := wn (by omega) (by omega)
  have w5 : IntKind.u64.wrap (len : Int) = (len : Int) := wrap_u64 (by omega) (by omega)
  have h8' : (8 : Int) ≤ (len : Int) := by omega
  obtain ⟨L, hL1, hL2, hL3⟩ := pow_run len (by omega) (by omega) (n := m) (by omega)
  have c := fun h => call_of (h := h) (pg := pg) (f := 115) rfl rfl hL3
  obtain ⟨M, hM⟩ : ∃ M, M = 2 ^ L := ⟨_, rfl⟩
  have hM1 : 1 ≤ M := by rw [hM]; exact Nat.one_le_two_pow
  rw [← hM] at hL2 c
  simp [k82, Env.v_ini, w0, w1, w2, w3, w4, w5, h8', c, D.cells, D.one, hfr, Nat.add_assoc, ev_loop]
  refine Res.fin2 (lp_rule 2 (qBP d a b q M kb (h.next + 137) N cap h) _ (bp_round d a b q M kb (h.next + 137) N hN hb (by omega) (by omega) hM1 (by omega) cap h) 3 m _ (by omega) ⟨_, _, d, len, md - 1, rfl, by omega, by simp [Env.v_ini], by simp [Env.v_ini], by simp [hlen], by simp, by simp, by simp, by omega, by omega, by omega, ?_, hd, Go.Sort.permIn_refl d a b⟩) ?_
  · have W0 : SW kb d (h.next + 137) (.cells 159 [D.val (.int .u64 0)]) h ((((h.bump 65).bump 65).bump 65).set (h.next + 137) (some (.cells 159 [D.val (.int .u64 0)]))) := SW.new (((sd.bump 65).bump 65).bump 65) (by omega) (by simp) _
    exact ((W0.setS (.cells 159 [wordD len])).bump 65).bump 65
  · rintro x s ⟨rfl, y, h', d', rfl, sd', hd', hP⟩
    simp
    exact ⟨d', sd', hd', hP⟩
end Go.Proofs.YtmncdmpeeibgmaaGreatDoor
/- The library's sort: some pivot is chosen. -/
namespace Go.Proofs.YtmncdmpeeibgmaaGreatDoor
open Go Go.Em
set_option maxRecDepth 100000
set_option linter.unusedSectionVars false
variable [Tl]
abbrev cB (c : Nat) : Blk := .cells 3 [D.int c]
set_option maxHeartbeats 8000000 in
theorem o2_sh {kb sb c : Nat} {d : Array Int} {h0 h : Heap} (W : SW kb d sb (cB c) h0 h) {N : Nat} (hd : d.size = N) (hN : N ≤ 1000000) (hc : c ≤ 1000) (cap : Option Nat) {lo hi a b : Nat} (ha1 : lo ≤ a) (ha2 : a < hi) (hb1 : lo ≤ b) (hb2 : b < hi) (hh : hi ≤ N) {n : Nat} (hn : 5 ≤ n) :
    ∃ h' a' b' c', (rc pg n).fn 134 [.slr kb 0 N 1 cap, D.int a, D.int b, .ptr sb 0] h = some (.ret (.tup [D.int ((a' : Nat) : Int), D.int ((b' : Nat) : Int)]), h') ∧ SW kb d sb (cB c') h0 h' ∧ c' ≤ c + 1 ∧ lo ≤ a' ∧ a' < hi ∧ lo ≤ b' ∧ b' < hi := by
  obtain ⟨m, rfl, e⟩ := fn_body (pg := pg) (f := 134) (args := [.slr kb 0 N 1 cap, D.int a, D.int b, .ptr sb 0]) (h := h) (show 0 < n by omega) rfl rfl
  rw [e]
  have g := W.sd.g
  have gs := W.s
  have s117 : pg.sh 86 = false := rfl
  have haN : a < d.size := by omega
  have hbN : b < d.size := by omega
  have l1 : a < N := by omega
  have l2 : b < N := by omega
  have l3 : a + 1 ≤ N := by omega
  have l4 : b + 1 ≤ N := by omega
  have w1 : IntKind.i64.wrap ((c : Int) + 1) = ((c + 1 : Nat) : Int) := wn (by omega) (by omega)
  obtain ⟨c1, hc1⟩ : ∃ c1, c1 = c + 1 := ⟨_, rfl⟩
  rw [← hc1] at w1
  obtain ⟨C, hC⟩ : ∃ C, C = dl d := ⟨_, rfl⟩
  have hl := dl_le hC
  obtain ⟨va, f1, e1, y1⟩ := get_fact haN hC
  obtain ⟨vb, f2, e2, y2⟩ := get_fact hbN hC
  rw [← hC] at g
  have r := lss_run vb va (n := m) (by omega)
  cases hlt : Go.Sort.ltInt vb va with
  | true =>
    rw [hlt] at r
    simp [k134, Env.v_ini, w1, D.cells, D.one, g, gs, hl, hd, e1, e2, l1, l2, l3, l4, dcore_f, s117, r]
    refine ⟨_, b, a, ⟨⟨rfl, rfl⟩, rfl⟩, c1, ?_, by omega, hb1, hb2, ha1, ha2⟩
    repeat' first | exact W | refine SW.bump ?_ _ | refine SW.setS (S := cB c) ?_ _
  | false =>
    rw [hlt] at r
    simp [k134, Env.v_ini, g, hl, hd, e1, e2, l1, l2, l3, l4, dcore_f, s117, r]
    refine ⟨_, a, b, ⟨⟨rfl, rfl⟩, rfl⟩, c, ?_, by omega, ha1, ha2, hb1, hb2⟩
    repeat' first | exact W | refine SW.bump ?_ _
end Go.Proofs.YtmncdmpeeibgmaaGreatDoor
/- The library's sort: medians; some pivot is chosen. -/
namespace Go.Proofs.YtmncdmpeeibgmaaGreatDoor
open Go Go.Em
set_option maxRecDepth 100000
set_option linter.unusedSectionVars false
variable [Tl]
set_option maxHeartbeats 8000000 in
theorem med_sh {kb sb c : Nat} {d : Array Int} {h0 h : Heap} (W : SW kb d sb (cB c) h0 h) {N : Nat} (hd : d.size = N) (hN : N ≤ 1000000) (hc : c ≤ 900) (cap : Option Nat) {lo hi a b e : Nat} (ha1 : lo ≤ a) (ha2 : a < hi) (hb1 : lo ≤ b) (hb2 : b < hi) (he1 : lo ≤ e) (he2 : e < hi) (hh : hi ≤ N) {n : Nat} (hn : 10 ≤ n) :
    ∃ h' a' c', (rc pg n).fn 118 [.slr kb 0 N 1 cap, D.int a, D.int b, D.int e, .ptr sb 0] h = some (.ret (D.int ((a' : Nat) : Int)), h') ∧ SW kb d sb (cB c') h0 h' ∧ c' ≤ c + 3 ∧ lo ≤ a' ∧ a' < hi := by
  obtain ⟨m, rfl, ee⟩ := fn_body (pg := pg) (f := 118) (args := [.slr kb 0 N 1 cap, D.int a, D.int b, D.int e, .ptr sb 0]) (h := h) (show 0 < n by omega) rfl rfl
  rw [ee]
  obtain ⟨H1, hH1⟩ : ∃ H, H = (h.bump 36).bump 36 := ⟨_, rfl⟩
  have W1 : SW kb d sb (cB c) h0 H1 := hH1 ▸ (W.bump 36).bump 36
  obtain ⟨h1, a1, b1, c1, r1, V1, hc1, p1, p2, p3, p4⟩ := o2_sh W1 hd hN (by omega) cap ha1 ha2 hb1 hb2 hh (n := m) (by omega)
  have s1 := call_sh (pg := pg) (f := 134) rfl r1
  obtain ⟨H2, hH2⟩ : ∃ H, H = h1.bump 36 := ⟨_, rfl⟩
  have W2 : SW kb d sb (cB c1) h0 H2 := hH2 ▸ V1.bump 36
  obtain ⟨h2, a2, b2, c2, r2, V2, hc2, q1, q2, q3, q4⟩ := o2_sh W2 hd hN (by omega) cap p3 p4 he1 he2 hh (n := m) (by omega)
  have s2 := call_sh (pg := pg) (f := 134) rfl r2
  obtain ⟨H3, hH3⟩ : ∃ H, H = h2.bump 36 := ⟨_, rfl⟩
  have W3 : SW kb d sb (cB c2) h0 H3 := hH3 ▸ V2.bump 36
  obtain ⟨h3, a3, b3, c3, r3, V3, hc3, t1, t2, t3, t4⟩ := o2_sh W3 hd hN (by omega) cap p1 p2 q1 q2 hh (n := m) (by omega)
  have s3 := call_sh (pg := pg) (f := 134) rfl r3
  simp [k118, Env.v_ini, ← hH1, s1, ← hH2, s2, ← hH3, s3]
  refine ⟨_, b3, ⟨rfl, rfl⟩, c3, ?_, by omega, t3, t4⟩
  repeat' first | exact V3 | refine SW.bump ?_ _
set_option maxHeartbeats 8000000 in
theorem meda_sh {kb sb c : Nat} {d : Array Int} {h0 h : Heap} (W : SW kb d sb (cB c) h0 h) {N : Nat} (hd : d.size = N) (hN : N ≤ 1000000) (hc : c ≤ 900) (cap : Option Nat) {lo hi a : Nat} (ha1 : lo + 1 ≤ a) (ha2 : a + 1 < hi) (hh : hi ≤ N) {n : Nat} (hn : 11 ≤ n) :
    ∃ h' a' c', (rc pg n).fn 117 [.slr kb 0 N 1 cap, D.int a, .ptr sb 0] h = some (.ret (D.int ((a' : Nat) : Int)), h') ∧ SW kb d sb (cB c') h0 h' ∧ c' ≤ c + 3 ∧ lo ≤ a' ∧ a' < hi := by
  obtain ⟨m, rfl, ee⟩ := fn_body (pg := pg) (f := 117) (args := [.slr kb 0 N 1 cap, D.int a, .ptr sb 0]) (h := h) (show 0 < n by omega) rfl rfl
  rw [ee]
  have w1 : IntKind.i64.wrap ((a : Int) - 1) = ((a - 1 : Nat) : Int) := wn (by omega) (by omega)
  have w2 : IntKind.i64.wrap ((a : Int) + 1) = ((a + 1 : Nat) : Int) := wn (by omega) (by omega)
  obtain ⟨u, hu⟩ : ∃ u, u = a - 1 := ⟨_, rfl⟩
  obtain ⟨v, hv⟩ : ∃ v, v = a + 1 := ⟨_, rfl⟩
  rw [← hu] at w1
  rw [← hv] at w2
  obtain ⟨H1, hH1⟩ : ∃ H, H = (h.bump 15).bump 15 := ⟨_, rfl⟩
  have W1 : SW kb d sb (cB c) h0 H1 := hH1 ▸ (W.bump 15).bump 15
  obtain ⟨h1, a1, c1, r1, V1, hc1, p1, p2⟩ := med_sh W1 hd hN hc cap (a := u) (b := a) (e := v) (lo := lo) (hi := hi) (by omega) (by omega) (by omega) (by omega) (by omega) (by omega) hh (n := m) (by omega)
  have s1 := call_sh (pg := pg) (f := 118) rfl r1
  simp [k117, Env.v_ini, w1, w2, ← hH1, s1]
  refine ⟨_, a1, ⟨rfl, rfl⟩, c1, ?_, by omega, p1, p2⟩
  repeat' first | exact V1 | refine SW.bump ?_ _
end Go.Proofs.YtmncdmpeeibgmaaGreatDoor
/- The library's sort: some pivot, by the program. -/
namespace Go.Proofs.YtmncdmpeeibgmaaGreatDoor
open Go Go.Em
set_option maxRecDepth 100000
set_option linter.unusedSectionVars false
variable [Tl]
set_option maxHeartbeats 16000000 in
theorem piv_sh {kb : Nat} {d : Array Int} {h : Heap} (hg : h.get kb = some (.cells 3 (dl d))) (hk : kb < h.next) (hf : h.Fr) {N : Nat} (hd : d.size = N) (hN : N ≤ 1000000) (cap : Option Nat) {a b : Nat} (h8 : 8 ≤ b - a) (hb : b ≤ N) {n : Nat} (hn : 60 ≤ n) :
    ∃ h' p hint, (rc pg n).fn 83 [.slr kb 0 N 1 cap, D.int a, D.int b] h = some (.ret (.tup [D.int ((p : Nat) : Int), D.int ((hint : Nat) : Int)]), h') ∧ SD kb d h h' ∧ a ≤ p ∧ p < b := by
  obtain ⟨m, rfl, e⟩ := fn_body (pg := pg) (f := 83) (args := [.slr kb 0 N 1 cap, D.int a, D.int b]) (h := h) (show 0 < n by omega) rfl rfl
  rw [e]
  have sd := SD.refl hg hk hf
  have hfr : ∀ j, h.raw (h.next + j) = none := fun j => hf _ (by omega)
  obtain ⟨len, hlen⟩ : ∃ len, len = b - a := ⟨_, rfl⟩
  rw [← hlen] at h8
  obtain ⟨q, hq⟩ : ∃ q, q = len / 4 := ⟨_, rfl⟩
  obtain ⟨q2, hq2⟩ : ∃ q2, q2 = q * 2 := ⟨_, rfl⟩
  obtain ⟨q3, hq3⟩ : ∃ q3, q3 = q * 3 := ⟨_, rfl⟩
  obtain ⟨i, hi⟩ : ∃ i, i = a + q := ⟨_, rfl⟩
  obtain ⟨j, hj⟩ : ∃ j, j = a + q2 := ⟨_, rfl⟩
  obtain ⟨k, hkk⟩ : ∃ k, k = a + q3 := ⟨_, rfl⟩
  have w0 : bin .quo (.int .i64 (len : Int)) (.int .i64 4) = some (.int .i64 (q : Int)) := by
    rw [bin_quo (by omega), wn (m := q) (by rw [hq, Int.tdiv_eq_ediv_of_nonneg (by omega)]; omega) (by omega)]
  have w1 : IntKind.i64.wrap (q : Int) = (q : Int) := wn (by omega) (by omega)
  have w2 : IntKind.i64.wrap ((q : Int) * 2) = (q2 : Int) := wn (by omega) (by omega)
  have w3 : IntKind.i64.wrap ((q : Int) * 3) = (q3 : Int) := wn (by omega) (by omega)
  have w4 : IntKind.i64.wrap ((b : Int) - (a : Int)) = (len : Int) := wn (by omega) (by omega)
  have w5 : IntKind.i64.wrap ((a : Int) + (q : Int)) = (i : Int) := wn (by omega) (by omega)
  have w6 : IntKind.i64.wrap ((a : Int) + (q2 : Int)) = (j : Int) := wn (by omega) (by omega)
  have w7 : IntKind.i64.wrap ((a : Int) + (q3 : Int)) = (k : Int) := wn (by omega) (by omega)
  have h8' : (8 : Int) ≤ (len : Int) := by omega
  obtain ⟨sb, hsb⟩ : ∃ sb, sb = h.next + 123 := ⟨_, rfl⟩
  obtain ⟨H1, hH1⟩ : ∃ H, H = (((((((((h.bump 57).bump 57).bump 57).set sb (some (cB 0))).bump 57).bump 57).bump 57).bump 57).bump 57).bump 57 := ⟨_, rfl⟩
  have W1 : SW kb d sb (cB 0) h H1 := by
    rw [hH1]
    have W0 : SW kb d sb (cB 0) h ((((h.bump 57).bump 57).bump 57).set sb (some (cB 0))) := SW.new (((sd.bump 57).bump 57).bump 57) (by omega) (by rw [hsb]; simp) _
    repeat' first | exact W0 | refine SW.bump ?_ _
  have c0 : cB 0 = Blk.cells 3 [D.val (.int .i64 0)] := rfl
  rw [c0, hsb] at hH1
  rw [hsb] at W1
  by_cases h50 : 50 ≤ len
  · have h50' : (50 : Int) ≤ (len : Int) := by omega
    obtain ⟨h1, i1, c1, r1, V1, hc1, p1, p2⟩ := meda_sh W1 hd hN (by omega) cap (lo := a) (hi := b) (a := i) (by omega) (by omega) hb (n := m) (by omega)
    have s1 := call_sh (pg := pg) (f := 117) rfl r1
    obtain ⟨H2, hH2⟩ : ∃ H, H = h1.bump 57 := ⟨_, rfl⟩
    obtain ⟨h2, j1, c2, r2, V2, hc2, q1', q2'⟩ := meda_sh (hH2 ▸ V1.bump 57 : SW kb d _ _ h H2) hd hN (by omega) cap (lo := a) (hi := b) (a := j) (by omega) (by omega) hb (n := m) (by omega)
    have s2 := call_sh (pg := pg) (f := 117) rfl r2
    obtain ⟨H3, hH3⟩ : ∃ H, H = h2.bump 57 := ⟨_, rfl⟩
    obtain ⟨h3, k1, c3, r3, V3, hc3, t1, t2⟩ := meda_sh (hH3 ▸ V2.bump 57 : SW kb d _ _ h H3) hd hN (by omega) cap (lo := a) (hi := b) (a := k) (by omega) (by omega) hb (n := m) (by omega)
    have s3 := call_sh (pg := pg) (f := 117) rfl r3
    obtain ⟨H4, hH4⟩ : ∃ H, H = h3.bump 57 := ⟨_, rfl⟩
    obtain ⟨h4, p, c4, r4, V4, hc4, u1, u2⟩ := med_sh (hH4 ▸ V3.bump 57 : SW kb d _ _ h H4) hd hN (by omega) cap p1 p2 q1' q2' t1 t2 hb (n := m) (by omega)
    have s4 := call_sh (pg := pg) (f := 118) rfl r4
    have gs := V4.s
    by_cases z : c4 = 0
    · subst z
      simp [k83, Env.v_ini, w0, w1, w2, w3, w4, w5, w6, w7, h8', h50', hfr, Nat.add_assoc, ← hH1, s1, ← hH2, s2, ← hH3, s3, ← hH4, s4, gs]
      refine ⟨_, p, ⟨⟨rfl, 1, rfl⟩, rfl⟩, ?_, u1, u2⟩
      repeat' first | exact V4.sd | refine SD.bump ?_ _
    · have z' : ((c4 : Int) == 0) = false := by simp; omega
      by_cases y : c4 = 12
      · have y' : ((c4 : Int) == 12) = true := by simp; omega
        simp [-beq_eq_false_iff_ne, -beq_iff_eq, k83, Env.v_ini, w0, w1, w2, w3, w4, w5, w6, w7, h8', h50', hfr, Nat.add_assoc, ← hH1, s1, ← hH2, s2, ← hH3, s3, ← hH4, s4, gs, z', y']
        refine ⟨_, p, ⟨⟨rfl, 2, rfl⟩, rfl⟩, ?_, u1, u2⟩
        repeat' first | exact V4.sd | refine SD.bump ?_ _
      · have y' : ((c4 : Int) == 12) = false := by simp; omega
        simp [-beq_eq_false_iff_ne, -beq_iff_eq, k83, Env.v_ini, w0, w1, w2, w3, w4, w5, w6, w7, h8', h50', hfr, Nat.add_assoc, ← hH1, s1, ← hH2, s2, ← hH3, s3, ← hH4, s4, gs, z', y']
        refine ⟨_, p, ⟨⟨rfl, 0, rfl⟩, rfl⟩, ?_, u1, u2⟩
        repeat' first | exact V4.sd | refine SD.bump ?_ _
  · have h50' : ¬ (50 : Int) ≤ (len : Int) := by omega
    obtain ⟨h4, p, c4, r4, V4, hc4, u1, u2⟩ := med_sh W1 hd hN (by omega) cap (lo := a) (hi := b) (a := i) (b := j) (e := k) (by omega) (by omega) (by omega) (by omega) (by omega) (by omega) hb (n := m) (by omega)
    have s4 := call_sh (pg := pg) (f := 118) rfl r4
    have gs := V4.s
    by_cases z : c4 = 0
    · subst z
      simp [k83, Env.v_ini, w0, w1, w2, w3, w4, w5, w6, w7, h8', h50', hfr, Nat.add_assoc, ← hH1, s4, gs]
      refine ⟨_, p, ⟨⟨rfl, 1, rfl⟩, rfl⟩, ?_, u1, u2⟩
      repeat' first | exact V4.sd | refine SD.bump ?_ _
    · have z' : ((c4 : Int) == 0) = false := by simp; omega
      have y' : ((c4 : Int) == 12) = false := by simp; omega
      simp [-beq_eq_false_iff_ne, -beq_iff_eq, k83, Env.v_ini, w0, w1, w2, w3, w4, w5, w6, w7, h8', h50', hfr, Nat.add_assoc, ← hH1, s4, gs, z', y']
      refine ⟨_, p, ⟨⟨rfl, 0, rfl⟩, rfl⟩, ?_, u1, u2⟩
      repeat' first | exact V4.sd | refine SD.bump ?_ _
end Go.Proofs.YtmncdmpeeibgmaaGreatDoor
