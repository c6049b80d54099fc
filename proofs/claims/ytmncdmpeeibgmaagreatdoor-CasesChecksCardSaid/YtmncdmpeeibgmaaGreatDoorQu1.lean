/- The library's sort: a round of pattern-defeating quicksort, from behind. -/
import Derived.Test.YtmncdmpeeibgmaaGreatDoorQt1
namespace Go.Proofs.YtmncdmpeeibgmaaGreatDoor
open Go Go.Em
set_option maxRecDepth 100000
set_option linter.unusedSectionVars false
variable [Tl]
def k122t8 : Cd :=
  .seq (.region [⟨none, some 95, .inl (.mv (.s 0))⟩,
 ⟨none, some 96, .inl (.mv (.s 1))⟩,
 ⟨none, some 97, .inl (.mv (.s 2))⟩,
 ⟨none, some 98, .inl (.mv (.s 11))⟩,
 ⟨none, some 99, .inr (.fn 88 [(.s 95), (.s 96), (.s 97), (.s 98)])⟩,
 ⟨none, some 94, .inl (.mv (.s 99))⟩,
 ⟨none, some 100, .inl (.ex (.s 94) 0)⟩,
 ⟨none, some 101, .inl (.ex (.s 94) 1)⟩,
 ⟨none, some 14, .inl (.mv (.s 100))⟩,
 ⟨none, some 15, .inl (.mv (.s 101))⟩])
 (.seq (.region [⟨none, some 102, .inl (.mv (.s 15))⟩,
 ⟨none, some 9, .inl (.mv (.s 102))⟩])
 (.seq (.region [⟨none, some 103, .inl (.mv (.s 14))⟩,
 ⟨none, some 104, .inl (.mv (.s 1))⟩,
 ⟨none, some 105, .inl (.bin .sub (.s 103) (.s 104))⟩,
 ⟨none, some 106, .inl (.mv (.s 2))⟩,
 ⟨none, some 107, .inl (.mv (.s 14))⟩,
 ⟨none, some 108, .inl (.bin .sub (.s 106) (.s 107))⟩,
 ⟨none, some 16, .inl (.mv (.s 105))⟩,
 ⟨none, some 17, .inl (.mv (.s 108))⟩])
 (.seq (.region [⟨none, some 109, .inl (.mv (.s 10))⟩,
 ⟨none, some 110, .inl (.bin .quo (.s 109) (.c (.int .i64 8)))⟩,
 ⟨none, some 18, .inl (.mv (.s 110))⟩])
 (.seq (.region [⟨none, some 111, .inl (.mv (.s 16))⟩,
 ⟨none, some 112, .inl (.mv (.s 17))⟩,
 ⟨none, some 113, .inl (.bin .lss (.s 111) (.s 112))⟩])
 (.cond (.s 113) (.seq (.region [⟨none, some 114, .inl (.mv (.s 16))⟩,
 ⟨none, some 115, .inl (.mv (.s 18))⟩,
 ⟨none, some 116, .inl (.bin .geq (.s 114) (.s 115))⟩,
 ⟨none, some 8, .inl (.mv (.s 116))⟩])
 (.seq (.region [⟨none, some 117, .inl (.mv (.s 0))⟩,
 ⟨none, some 118, .inl (.mv (.s 1))⟩,
 ⟨none, some 119, .inl (.mv (.s 14))⟩,
 ⟨none, some 120, .inl (.mv (.s 3))⟩,
 ⟨none, some 121, .inr (.fn 58 [(.s 117), (.s 118), (.s 119), (.s 120)])⟩])
 (.region [⟨none, some 122, .inl (.mv (.s 14))⟩,
 ⟨none, some 123, .inl (.bin .add (.s 122) (.c (.int .i64 1)))⟩,
 ⟨none, some 1, .inl (.mv (.s 123))⟩])))
 (.seq (.region [⟨none, some 124, .inl (.mv (.s 17))⟩,
 ⟨none, some 125, .inl (.mv (.s 18))⟩,
 ⟨none, some 126, .inl (.bin .geq (.s 124) (.s 125))⟩,
 ⟨none, some 8, .inl (.mv (.s 126))⟩])
 (.seq (.region [⟨none, some 127, .inl (.mv (.s 0))⟩,
 ⟨none, some 128, .inl (.mv (.s 14))⟩,
 ⟨none, some 129, .inl (.bin .add (.s 128) (.c (.int .i64 1)))⟩,
 ⟨none, some 130, .inl (.mv (.s 2))⟩,
 ⟨none, some 131, .inl (.mv (.s 3))⟩,
 ⟨none, some 132, .inr (.fn 58 [(.s 127), (.s 129), (.s 130), (.s 131)])⟩])
 (.region [⟨none, some 133, .inl (.mv (.s 14))⟩,
 ⟨none, some 2, .inl (.mv (.s 133))⟩]))))))))
def k122t7 : Cd :=
  .seq (.seq (.draw [⟨⟨none, some 73, .inl (.mv (.s 1))⟩, some [], [], 0, false⟩,
 ⟨⟨none, some 74, .inl (.bin .gtr (.s 73) (.c (.int .i64 0)))⟩, some [], [], 1, false⟩,
 ⟨⟨none, some 75, .inl (.mv (.s 74))⟩, some [], [], 3, false⟩,
 ⟨⟨some (75, true), some 76, .inl (.mv (.s 0))⟩, some [], [], 7, false⟩,
 ⟨⟨some (75, true), some 77, .inl (.mv (.s 1))⟩, some [], [], 7, false⟩,
 ⟨⟨some (75, true), some 78, .inl (.bin .sub (.s 77) (.c (.int .i64 1)))⟩, some [], [], 23, false⟩,
 ⟨⟨some (75, true), some 79, .inl (.ias 1 (.s 76) (.s 78))⟩, some [], [], 63, false⟩,
 ⟨⟨some (75, true), some 80, .inl (.ld false 1 (.s 79))⟩, some [], [], 127, false⟩,
 ⟨⟨some (75, true), some 81, .inl (.mv (.s 0))⟩, some [], [], 7, false⟩,
 ⟨⟨some (75, true), some 82, .inl (.mv (.s 11))⟩, some [], [], 7, false⟩,
 ⟨⟨some (75, true), some 83, .inl (.ias 1 (.s 81) (.s 82))⟩, some [], [], 775, false⟩,
 ⟨⟨some (75, true), some 84, .inl (.ld false 1 (.s 83))⟩, some [], [], 1799, false⟩,
 ⟨⟨some (75, true), some 85, .inr (.fn 86 [(.s 80), (.s 84)])⟩, some [], [], 4095, false⟩,
 ⟨⟨some (75, true), some 86, .inl (.not (.s 85))⟩, some [], [], 8191, false⟩,
 ⟨⟨none, some 87, .inl (.pick (.s 75) (.s 86) (.c (.bool false)))⟩, some [], [], 16383, false⟩])
 (.cond (.s 87) (.seq (.region [⟨none, some 88, .inl (.mv (.s 0))⟩,
 ⟨none, some 89, .inl (.mv (.s 1))⟩,
 ⟨none, some 90, .inl (.mv (.s 2))⟩,
 ⟨none, some 91, .inl (.mv (.s 11))⟩,
 ⟨none, some 92, .inr (.fn 87 [(.s 88), (.s 89), (.s 90), (.s 91)])⟩,
 ⟨none, some 13, .inl (.mv (.s 92))⟩])
 (.seq (.region [⟨none, some 93, .inl (.mv (.s 13))⟩,
 ⟨none, some 1, .inl (.mv (.s 93))⟩])
 (.exit 1)))
 (.skip)))
  k122t8
def k122t6 : Cd :=
  .seq (.seq (.region [⟨none, some 61, .inl (.mv (.s 8))⟩,
 ⟨none, some 62, .inl (.mv (.s 61))⟩,
 ⟨some (62, true), some 63, .inl (.mv (.s 9))⟩,
 ⟨none, some 64, .inl (.pick (.s 62) (.s 63) (.c (.bool false)))⟩,
 ⟨none, some 65, .inl (.mv (.s 64))⟩,
 ⟨some (65, true), some 66, .inl (.mv (.s 12))⟩,
 ⟨some (65, true), some 67, .inl (.bin .eql (.s 66) (.c (.int .i64 1)))⟩,
 ⟨none, some 68, .inl (.pick (.s 65) (.s 67) (.c (.bool false)))⟩])
 (.cond (.s 68) (.seq (.region [⟨none, some 69, .inl (.mv (.s 0))⟩,
 ⟨none, some 70, .inl (.mv (.s 1))⟩,
 ⟨none, some 71, .inl (.mv (.s 2))⟩,
 ⟨none, some 72, .inr (.fn 85 [(.s 69), (.s 70), (.s 71)])⟩])
 (.cond (.s 72) (.ret)
 (.skip)))
 (.skip)))
  k122t7
def k122t5 : Cd :=
  .seq (.seq (.region [⟨none, some 49, .inl (.mv (.s 12))⟩,
 ⟨none, some 50, .inl (.bin .eql (.s 49) (.c (.int .i64 2)))⟩])
 (.cond (.s 50) (.seq (.region [⟨none, some 51, .inl (.mv (.s 0))⟩,
 ⟨none, some 52, .inl (.mv (.s 1))⟩,
 ⟨none, some 53, .inl (.mv (.s 2))⟩,
 ⟨none, some 54, .inr (.fn 84 [(.s 51), (.s 52), (.s 53)])⟩])
 (.seq (.region [⟨none, some 55, .inl (.mv (.s 2))⟩,
 ⟨none, some 56, .inl (.bin .sub (.s 55) (.c (.int .i64 1)))⟩,
 ⟨none, some 57, .inl (.mv (.s 11))⟩,
 ⟨none, some 58, .inl (.mv (.s 1))⟩,
 ⟨none, some 59, .inl (.bin .sub (.s 57) (.s 58))⟩,
 ⟨none, some 60, .inl (.bin .sub (.s 56) (.s 59))⟩,
 ⟨none, some 11, .inl (.mv (.s 60))⟩])
 (.region [⟨none, some 12, .inl (.mv (.c (.int .i64 1)))⟩])))
 (.skip)))
  k122t6
def k122t4 : Cd :=
  .seq (.region [⟨none, some 43, .inl (.mv (.s 0))⟩,
 ⟨none, some 44, .inl (.mv (.s 1))⟩,
 ⟨none, some 45, .inl (.mv (.s 2))⟩,
 ⟨none, some 46, .inr (.fn 83 [(.s 43), (.s 44), (.s 45)])⟩,
 ⟨none, some 42, .inl (.mv (.s 46))⟩,
 ⟨none, some 47, .inl (.ex (.s 42) 0)⟩,
 ⟨none, some 48, .inl (.ex (.s 42) 1)⟩,
 ⟨none, some 11, .inl (.mv (.s 47))⟩,
 ⟨none, some 12, .inl (.mv (.s 48))⟩])
  k122t5
def k122t3 : Cd :=
  .seq (.seq (.region [⟨none, some 34, .inl (.mv (.s 8))⟩,
 ⟨none, some 35, .inl (.not (.s 34))⟩])
 (.cond (.s 35) (.seq (.region [⟨none, some 36, .inl (.mv (.s 0))⟩,
 ⟨none, some 37, .inl (.mv (.s 1))⟩,
 ⟨none, some 38, .inl (.mv (.s 2))⟩,
 ⟨none, some 39, .inr (.fn 82 [(.s 36), (.s 37), (.s 38)])⟩])
 (.region [⟨none, some 40, .inl (.mv (.s 3))⟩,
 ⟨none, some 41, .inl (.bin .sub (.s 40) (.c (.int .i64 1)))⟩,
 ⟨none, some 3, .inl (.mv (.s 41))⟩]))
 (.skip)))
  k122t4
def k122t2 : Cd :=
  .seq (.seq (.region [⟨none, some 28, .inl (.mv (.s 3))⟩,
 ⟨none, some 29, .inl (.bin .eql (.s 28) (.c (.int .i64 0)))⟩])
 (.cond (.s 29) (.seq (.region [⟨none, some 30, .inl (.mv (.s 0))⟩,
 ⟨none, some 31, .inl (.mv (.s 1))⟩,
 ⟨none, some 32, .inl (.mv (.s 2))⟩,
 ⟨none, some 33, .inr (.fn 81 [(.s 30), (.s 31), (.s 32)])⟩])
 (.ret))
 (.skip)))
  k122t3
theorem k122l0_eq : k58l0 = .block 1 (.seq (.region [⟨none, some 19, .inl (.mv (.s 2))⟩,
 ⟨none, some 20, .inl (.mv (.s 1))⟩,
 ⟨none, some 21, .inl (.bin .sub (.s 19) (.s 20))⟩,
 ⟨none, some 10, .inl (.mv (.s 21))⟩])
 (.seq (.seq (.region [⟨none, some 22, .inl (.mv (.s 10))⟩,
 ⟨none, some 23, .inl (.bin .leq (.s 22) (.c (.int .i64 12)))⟩])
 (.cond (.s 23) (.seq (.region [⟨none, some 24, .inl (.mv (.s 0))⟩,
 ⟨none, some 25, .inl (.mv (.s 1))⟩,
 ⟨none, some 26, .inl (.mv (.s 2))⟩,
 ⟨none, some 27, .inr (.fn 80 [(.s 24), (.s 25), (.s 26)])⟩])
 (.ret))
 (.skip)))
  k122t2)) := rfl
open Go.Sort (PermIn SortedIn Below)
def SrtOK (kb N : Nat) (cap : Option Nat) (K n0 : Nat) : Prop := ∀ (d : Array Int) (h : Heap) (a b lim n : Nat), h.get kb = some (.cells 3 (dl d)) → kb < h.next → h.Fr → d.size = N → a ≤ b → b ≤ N → b - a < K → Below lt a b d → lim ≤ 1000 → n0 ≤ n → ∃ h' d', (rc pg n).fn 58 [.slr kb 0 N 1 cap, D.int a, D.int b, D.int lim] h = some (.ret (.tup []), h') ∧ SD kb d' h h' ∧ d'.size = N ∧ PermIn a b d d' ∧ SortedIn lt a b d'
structure Lft (A B N : Nat) (d0 : Array Int) (a b : Nat) (d : Array Int) : Prop where
  ab : a ≤ b
  bN : b ≤ N
  sz : d.size = N
  bl : Below lt a b d
  gl : ∀ R, PermIn a b d R → SortedIn lt a b R → PermIn A B d0 R ∧ SortedIn lt A B R
theorem Lft.perm {A B N : Nat} {d0 : Array Int} {a b : Nat} {d d' : Array Int} (L : Lft A B N d0 a b d) (p : PermIn a b d d') : Lft A B N d0 a b d' :=
  ⟨L.ab, L.bN, by rw [p.1]; exact L.sz, L.bl.perm (by rw [L.sz]; exact L.bN) p, fun R h1 h2 => L.gl R (Go.Sort.permIn_trans _ _ _ a b p h1) h2⟩
def PdV (z : Env 134) (kb N : Nat) (cap : Option Nat) (a b lim : Nat) (wb wp : Bool) : Prop := z.v 0 = .slr kb 0 N 1 cap ∧ z.v 1 = D.int a ∧ z.v 2 = D.int b ∧ z.v 3 = D.int lim ∧ z.v 8 = D.bool wb ∧ z.v 9 = D.bool wp
def PdI (A B kb N : Nat) (cap : Option Nat) (d0 : Array Int) (h0 : Heap) (k : Nat) (s : St) : Prop := ∃ (x : Env 134) (h : Heap) (d : Array Int) (a b lim : Nat) (wb wp : Bool), s = ⟨x.l, h, []⟩ ∧ b - a ≤ k ∧ PdV x kb N cap a b lim wb wp ∧ lim ≤ 1000 ∧ SD kb d h0 h ∧ Lft A B N d0 a b d
def PdF (A B kb N : Nat) (d0 : Array Int) (h0 : Heap) (x : Ex) (s : St) : Prop := x = .ret ∧ ∃ (y : Env 134) (h : Heap) (R : Array Int), s = ⟨y.l, h, []⟩ ∧ SD kb R h0 h ∧ R.size = N ∧ PermIn A B d0 R ∧ SortedIn lt A B R
theorem Lft.fin {A B kb N : Nat} {d0 : Array Int} {a b : Nat} {d R : Array Int} (L : Lft A B N d0 a b d) (p : PermIn a b d R) (s : SortedIn lt a b R) {h0 h : Heap} (sd : SD kb R h0 h) {y : Env 134} : PdF A B kb N d0 h0 .ret ⟨y.l, h, []⟩ :=
  ⟨rfl, y, h, R, rfl, sd, by rw [p.1]; exact L.sz, (L.gl R p s).1, (L.gl R p s).2⟩
set_option maxHeartbeats 16000000 in
theorem t8_run {A B kb N K n0 : Nat} (hN : N ≤ 1000000) {cap : Option Nat} (ih : SrtOK kb N cap K n0) {d0 : Array Int} {h0 : Heap} {d : Array Int} {h : Heap} {z : Env 134} {a b lim p k : Nat} {wb wp : Bool} (P : PdV z kb N cap a b lim wb wp) (hl : lim ≤ 1000) (z10 : z.v 10 = D.int ((b - a : Nat) : Int)) (z11 : z.v 11 = D.int p) (sd : SD kb d h0 h) (L : Lft A B N d0 a b d) (h12 : 12 < b - a) (hk : b - a ≤ k) (hK : b - a ≤ K) (hp1 : a ≤ p) (hp2 : p < b) {n : Nat} (hn : n0 ≤ n) (hn' : 2 * N + 100 ≤ n) :
    Res (blockK 1 (k122t8.ev ⟨pg, 134, none⟩ (rc pg n) ⟨z.l, h, []⟩)) (Rnd (PdI A B kb N cap d0 h0) (PdF A B kb N d0 h0) k) := by
  obtain ⟨z0, z1, z2, z3, z8, z9⟩ := P
  obtain ⟨len, hlen⟩ : ∃ len, len = b - a := ⟨_, rfl⟩
  rw [← hlen] at z10
  have hbN := L.bN
  have hsz := L.sz
  obtain ⟨r, hr⟩ : ∃ r, Go.Sort.partition lt d a b p = r := ⟨_, rfl⟩
  obtain ⟨mid, ap, d4⟩ := r
  obtain ⟨m1, m2, m3, m4, m5, m6, m7⟩ := Go.Sort.round_part Go.Sort.swo_ltInt (Go.Sort.partition_holds lt) hp1 hp2 (by rw [hsz]; exact hbN) L.bl hr
  obtain ⟨H1, hH1⟩ : ∃ H, H = h.bump 134 := ⟨_, rfl⟩
  have sd1 : SD kb d h0 H1 := hH1 ▸ sd.bump 134
  obtain ⟨h1, r1, sd2, s4⟩ := part_sh sd1.g (by have := sd1.n; have := sd1.k; omega) sd1.fr hsz hN cap hp1 hp2 hbN (n := n) (by omega) hr
  have c1 := call_sh (pg := pg) (f := 88) rfl r1
  have sd3 := sd1.trans sd2
  simp only at c1 sd3 s4
  obtain ⟨th, hth⟩ : ∃ th, th = len / 8 := ⟨_, rfl⟩
  obtain ⟨lf, hlf⟩ : ∃ lf, lf = mid - a := ⟨_, rfl⟩
  obtain ⟨rg, hrg⟩ : ∃ rg, rg = b - mid := ⟨_, rfl⟩
  obtain ⟨md, hmd⟩ : ∃ md, md = mid + 1 := ⟨_, rfl⟩
  have w0 : bin .quo (.int .i64 (len : Int)) (.int .i64 8) = some (.int .i64 (th : Int)) := by
    rw [bin_quo (by omega), wn (m := th) (by rw [hth, Int.tdiv_eq_ediv_of_nonneg (by omega)]; omega) (by omega)]
  have w1 : IntKind.i64.wrap ((mid : Int) - (a : Int)) = (lf : Int) := wn (by omega) (by omega)
  have w2 : IntKind.i64.wrap ((b : Int) - (mid : Int)) = (rg : Int) := wn (by omega) (by omega)
  have w3 : IntKind.i64.wrap ((mid : Int) + 1) = (md : Int) := wn (by omega) (by omega)
  by_cases hc : lf < rg
  · obtain ⟨H2, hH2⟩ : ∃ H, H = (((((h1.bump 134).bump 134).bump 134).bump 134).bump 134).bump 134 := ⟨_, rfl⟩
    have sdH2 : SD kb d4 h0 H2 := by
      rw [hH2]; repeat' first | exact sd3 | refine SD.bump ?_ _
    obtain ⟨h2, dL, r2, sdL, sL, pL, oL⟩ := ih d4 H2 a mid lim n sdH2.g (by have := sdH2.n; have := sdH2.k; omega) sdH2.fr s4 m1 (by omega) (by omega) m4 hl hn
    have c2 := call_sh (pg := pg) (f := 58) rfl r2
    obtain ⟨bl, gl⟩ := m6 dL pL oL
    simp [k122t8, z0, z1, z2, z3, z10, z11, w0, w1, w2, w3, hc, ← hH1, c1, ← hH2, c2]
    refine ⟨k - 1, by omega, _, _, dL, md, b, lim, _, ap, rfl, by omega, ⟨by simp [z0], by simp, by simp [z2], by simp [z3], by simp; rfl, by simp⟩, hl, ?_, ⟨by omega, hbN, sL, by rw [hmd]; exact bl, fun R h1 h2 => ?_⟩⟩
    · have := sdH2.trans sdL
      repeat' first | exact this | refine SD.bump ?_ _
    · rw [hmd] at h1 h2
      obtain ⟨g1, g2⟩ := gl R h1 h2
      exact L.gl R g1 g2
  · obtain ⟨H2, hH2⟩ : ∃ H, H = (((((h1.bump 134).bump 134).bump 134).bump 134).bump 134).bump 134 := ⟨_, rfl⟩
    have sdH2 : SD kb d4 h0 H2 := by
      rw [hH2]; repeat' first | exact sd3 | refine SD.bump ?_ _
    obtain ⟨h2, dL, r2, sdL, sL, pL, oL⟩ := ih d4 H2 md b lim n sdH2.g (by have := sdH2.n; have := sdH2.k; omega) sdH2.fr s4 (by omega) hbN (by omega) (by rw [hmd]; exact m5) hl hn
    have c2 := call_sh (pg := pg) (f := 58) rfl r2
    rw [hmd] at pL oL
    obtain ⟨bl, gl⟩ := m7 dL pL oL
    simp [k122t8, z0, z1, z2, z3, z10, z11, w0, w1, w2, w3, hc, ← hH1, c1, ← hH2, c2]
    refine ⟨k - 1, by omega, _, _, dL, a, mid, lim, _, ap, rfl, by omega, ⟨by simp [z0], by simp [z1], by simp, by simp [z3], by simp; rfl, by simp⟩, hl, ?_, ⟨m1, by omega, sL, bl, fun R h1 h2 => ?_⟩⟩
    · have := sdH2.trans sdL
      repeat' first | exact this | refine SD.bump ?_ _
    · obtain ⟨g1, g2⟩ := gl R h1 h2
      exact L.gl R g1 g2
end Go.Proofs.YtmncdmpeeibgmaaGreatDoor
/- The library's sort: a round of pattern-defeating quicksort: the part of equals, the attempt at once, the reversal. -/
namespace Go.Proofs.YtmncdmpeeibgmaaGreatDoor
open Go Go.Em
open Go.Sort (PermIn SortedIn Below)
set_option maxRecDepth 100000
set_option linter.unusedSectionVars false
variable [Tl]
set_option maxHeartbeats 16000000 in
theorem t7_run {A B kb N K n0 : Nat} (hN : N ≤ 1000000) {cap : Option Nat} (ih : SrtOK kb N cap K n0) {d0 : Array Int} {h0 : Heap} {d : Array Int} {h : Heap} {z : Env 134} {a b lim p k : Nat} {wb wp : Bool} (P : PdV z kb N cap a b lim wb wp) (hl : lim ≤ 1000) (z10 : z.v 10 = D.int ((b - a : Nat) : Int)) (z11 : z.v 11 = D.int p) (sd : SD kb d h0 h) (L : Lft A B N d0 a b d) (h12 : 12 < b - a) (hk : b - a ≤ k) (hK : b - a ≤ K) (hp1 : a ≤ p) (hp2 : p < b) {n : Nat} (hn : n0 ≤ n) (hn' : 2 * N + 100 ≤ n) :
    Res (blockK 1 (k122t7.ev ⟨pg, 134, none⟩ (rc pg n) ⟨z.l, h, []⟩)) (Rnd (PdI A B kb N cap d0 h0) (PdF A B kb N d0 h0) k) := by
  obtain ⟨z0, z1, z2, z3, z8, z9⟩ := P
  have hbN := L.bN
  have hsz := L.sz
  have g := sd.g
  have s117 : pg.sh 86 = false := rfl
  by_cases ha : 0 < a
  · have ha' : (0 : Int) < (a : Int) := by omega
    obtain ⟨q, hq⟩ : ∃ q, q = a - 1 := ⟨_, rfl⟩
    have w1 : IntKind.i64.wrap ((a : Int) - 1) = (q : Int) := wn (by omega) (by omega)
    have hqN : q < d.size := by omega
    have hpN : p < d.size := by omega
    have l1 : q < N := by omega
    have l2 : p < N := by omega
    have l3 : q + 1 ≤ N := by omega
    have l4 : p + 1 ≤ N := by omega
    obtain ⟨C, hC⟩ : ∃ C, C = dl d := ⟨_, rfl⟩
    have hcl := dl_le hC
    obtain ⟨va, f1, e1, y1⟩ := get_fact hqN hC
    obtain ⟨vb, f2, e2, y2⟩ := get_fact hpN hC
    rw [← hC] at g
    have r := lss_run va vb (n := n) (by omega)
    cases hlt : Go.Sort.ltInt va vb with
    | true =>
      rw [hlt] at r
      simp [k122t7, z0, z1, z11, ha, w1, g, hcl, hsz, e1, e2, l1, l2, l3, l4, dcore_f, s117, r]
      refine t8_run hN ih (z := _) (wb := wb) (wp := wp) ⟨by simp [z0], by simp [z1], by simp [z2], by simp [z3], by simp [z8], by simp [z9]⟩ hl (by simp [z10]) (by simp [z11]) ?_ L h12 hk hK hp1 hp2 hn hn'
      repeat' first | exact sd | refine SD.bump ?_ _
    | false =>
      rw [hlt] at r
      obtain ⟨rr, hr⟩ : ∃ r, Go.Sort.partitionEqual lt d a b p = r := ⟨_, rfl⟩
      obtain ⟨mid, d4⟩ := rr
      obtain ⟨m1, m2, m3, m4, m5⟩ := Go.Sort.round_eq Go.Sort.swo_ltInt (Go.Sort.partitionEqual_holds lt) ha hp1 hp2 (by rw [hsz]; exact hbN) L.bl (by rw [← hq, y1, y2]; exact hlt) hr
      obtain ⟨H1, hH1⟩ : ∃ H, H = (h.bump 134).bump 134 := ⟨_, rfl⟩
      have sd1 : SD kb d h0 H1 := hH1 ▸ (sd.bump 134).bump 134
      obtain ⟨h1, r1, sd2, s4⟩ := partE_sh sd1.g (by have := sd1.n; have := sd1.k; omega) sd1.fr hsz hN cap hp1 hp2 hbN (n := n) (by omega) hr
      have c1 := call_sh (pg := pg) (f := 87) rfl r1
      have sd3 := sd1.trans sd2
      simp only at c1 sd3 s4
      simp [k122t7, z0, z1, z2, z11, ha, w1, g, hcl, hsz, e1, e2, l1, l2, l3, l4, dcore_f, s117, r, ← hH1, c1]
      refine ⟨k - 1, by omega, _, _, d4, mid, b, lim, wb, wp, rfl, by omega, ⟨by simp [z0], by simp, by simp [z2], by simp [z3], by simp [z8], by simp [z9]⟩, hl, ?_, ⟨m2, hbN, s4, m4, fun R h1 h2 => ?_⟩⟩
      · repeat' first | exact sd3 | refine SD.bump ?_ _
      · obtain ⟨g1, g2⟩ := m5 R h1 h2
        exact L.gl R g1 g2
  · have ha' : ¬ (0 : Int) < (a : Int) := by omega
    simp [k122t7, z1, ha, dcore_f, s117]
    refine t8_run hN ih (z := _) (wb := wb) (wp := wp) ⟨by simp [z0], by simp [z1], by simp [z2], by simp [z3], by simp [z8], by simp [z9]⟩ hl (by simp [z10]) (by simp [z11]) ?_ L h12 hk hK hp1 hp2 hn hn'
    repeat' first | exact sd | refine SD.bump ?_ _
set_option maxHeartbeats 16000000 in
theorem t6_run {A B kb N K n0 : Nat} (hN : N ≤ 1000000) {cap : Option Nat} (ih : SrtOK kb N cap K n0) {d0 : Array Int} {h0 : Heap} {d : Array Int} {h : Heap} {z : Env 134} {a b lim p k hint : Nat} {wb wp : Bool} (P : PdV z kb N cap a b lim wb wp) (hl : lim ≤ 1000) (z10 : z.v 10 = D.int ((b - a : Nat) : Int)) (z11 : z.v 11 = D.int p) (z12 : z.v 12 = D.int hint) (sd : SD kb d h0 h) (L : Lft A B N d0 a b d) (h12 : 12 < b - a) (hk : b - a ≤ k) (hK : b - a ≤ K) (hp1 : a ≤ p) (hp2 : p < b) {n : Nat} (hn : n0 ≤ n) (hn' : 2 * N + 100 ≤ n) :
    Res (blockK 1 (k122t6.ev ⟨pg, 134, none⟩ (rc pg n) ⟨z.l, h, []⟩)) (Rnd (PdI A B kb N cap d0 h0) (PdF A B kb N d0 h0) k) := by
  obtain ⟨z0, z1, z2, z3, z8, z9⟩ := P
  have hbN := L.bN
  have hsz := L.sz
  obtain ⟨v, hv⟩ : ∃ v : Bool, v = (wb && wp && ((hint : Int) == 1)) := ⟨_, rfl⟩
  cases v with
  | false =>
    cases wb with
    | false =>
      simp [k122t6, z8]
      refine t7_run hN ih (z := _) (wb := false) (wp := wp) ⟨by simp [z0], by simp [z1], by simp [z2], by simp [z3], by simp [z8], by simp [z9]⟩ hl (by simp [z10]) (by simp [z11]) ?_ L h12 hk hK hp1 hp2 hn hn'
      repeat' first | exact sd | refine SD.bump ?_ _
    | true =>
      cases wp with
      | false =>
        simp [k122t6, z8, z9]
        refine t7_run hN ih (z := _) (wb := true) (wp := false) ⟨by simp [z0], by simp [z1], by simp [z2], by simp [z3], by simp [z8], by simp [z9]⟩ hl (by simp [z10]) (by simp [z11]) ?_ L h12 hk hK hp1 hp2 hn hn'
        repeat' first | exact sd | refine SD.bump ?_ _
      | true =>
        have hv' : ((hint : Int) == 1) = false := by simpa using hv.symm
        simp [-beq_iff_eq, -beq_eq_false_iff_ne, k122t6, z8, z9, z12, hv']
        refine t7_run hN ih (z := _) (wb := true) (wp := true) ⟨by simp [z0], by simp [z1], by simp [z2], by simp [z3], by simp [z8], by simp [z9]⟩ hl (by simp [z10]) (by simp [z11]) ?_ L h12 hk hK hp1 hp2 hn hn'
        repeat' first | exact sd | refine SD.bump ?_ _
  | true =>
    have hv3 : wb = true ∧ wp = true ∧ ((hint : Int) == 1) = true := by
      have hv4 := hv.symm
      rw [Bool.and_eq_true, Bool.and_eq_true] at hv4
      exact ⟨hv4.1.1, hv4.1.2, hv4.2⟩
    obtain ⟨rfl, rfl, hv'⟩ := hv3
    obtain ⟨H1, hH1⟩ : ∃ H, H = (h.bump 134).bump 134 := ⟨_, rfl⟩
    have sd1 : SD kb d h0 H1 := hH1 ▸ (sd.bump 134).bump 134
    obtain ⟨h1, r1, sd2, s4⟩ := pins_sh sd1.g (by have := sd1.n; have := sd1.k; omega) sd1.fr hsz hN cap (a := a) (b := b) (by omega) hbN (n := n) (by omega)
    have c1 := call_sh (pg := pg) (f := 85) rfl r1
    have sd3 := sd1.trans sd2
    obtain ⟨p1, p2⟩ := Go.Sort.partialInsertionSort_holds (lt := lt) Go.Sort.swo_ltInt d a b (by omega) (by rw [hsz]; exact hbN) L.bl
    obtain ⟨d1, hd1⟩ : ∃ d1, d1 = (Go.Sort.partialInsertionSort lt d a b).1 := ⟨_, rfl⟩
    obtain ⟨ok, hok⟩ : ∃ ok, ok = (Go.Sort.partialInsertionSort lt d a b).2 := ⟨_, rfl⟩
    rw [← hd1] at sd3 p1 p2 s4
    rw [← hok] at c1 p2
    cases ok with
    | true =>
      simp [-beq_iff_eq, -beq_eq_false_iff_ne, k122t6, z0, z1, z2, z8, z9, z12, hv', ← hH1, c1]
      refine L.fin p1 (p2 rfl) ?_
      repeat' first | exact sd3 | refine SD.bump ?_ _
    | false =>
      simp [-beq_iff_eq, -beq_eq_false_iff_ne, k122t6, z0, z1, z2, z8, z9, z12, hv', ← hH1, c1]
      refine t7_run hN ih (z := _) (wb := true) (wp := true) ⟨by simp [z0], by simp [z1], by simp [z2], by simp [z3], by simp [z8], by simp [z9]⟩ hl (by simp [z10]) (by simp [z11]) ?_ (L.perm p1) h12 hk hK hp1 hp2 hn hn'
      repeat' first | exact sd3 | refine SD.bump ?_ _
set_option maxHeartbeats 16000000 in
theorem t5_run {A B kb N K n0 : Nat} (hN : N ≤ 1000000) {cap : Option Nat} (ih : SrtOK kb N cap K n0) {d0 : Array Int} {h0 : Heap} {d : Array Int} {h : Heap} {z : Env 134} {a b lim p k hint : Nat} {wb wp : Bool} (P : PdV z kb N cap a b lim wb wp) (hl : lim ≤ 1000) (z10 : z.v 10 = D.int ((b - a : Nat) : Int)) (z11 : z.v 11 = D.int p) (z12 : z.v 12 = D.int hint) (sd : SD kb d h0 h) (L : Lft A B N d0 a b d) (h12 : 12 < b - a) (hk : b - a ≤ k) (hK : b - a ≤ K) (hp1 : a ≤ p) (hp2 : p < b) {n : Nat} (hn : n0 ≤ n) (hn' : 2 * N + 100 ≤ n) :
    Res (blockK 1 (k122t5.ev ⟨pg, 134, none⟩ (rc pg n) ⟨z.l, h, []⟩)) (Rnd (PdI A B kb N cap d0 h0) (PdF A B kb N d0 h0) k) := by
  obtain ⟨z0, z1, z2, z3, z8, z9⟩ := P
  have hbN := L.bN
  have hsz := L.sz
  cases hv : ((hint : Int) == 2) with
  | false =>
    simp [-beq_iff_eq, -beq_eq_false_iff_ne, k122t5, z12, hv]
    refine t6_run hN ih (z := _) (wb := wb) (wp := wp) (hint := hint) ⟨by simp [z0], by simp [z1], by simp [z2], by simp [z3], by simp [z8], by simp [z9]⟩ hl (by simp [z10]) (by simp [z11]) (by simp [z12]) ?_ L h12 hk hK hp1 hp2 hn hn'
    repeat' first | exact sd | refine SD.bump ?_ _
  | true =>
    obtain ⟨H1, hH1⟩ : ∃ H, H = (h.bump 134).bump 134 := ⟨_, rfl⟩
    have sd1 : SD kb d h0 H1 := hH1 ▸ (sd.bump 134).bump 134
    obtain ⟨h1, r1, sd2, s4⟩ := rev_sh sd1.g (by have := sd1.n; have := sd1.k; omega) sd1.fr hsz hN cap (a := a) (b := b) (by omega) hbN (n := n) (by omega)
    have c1 := call_sh (pg := pg) (f := 84) rfl r1
    have sd3 := sd1.trans sd2
    have p1 := Go.Sort.reverseRange_holds d a b (by omega) (by rw [hsz]; exact hbN)
    obtain ⟨d1, hd1⟩ : ∃ d1, d1 = Go.Sort.reverseRange d a b := ⟨_, rfl⟩
    rw [← hd1] at sd3 p1
    obtain ⟨b1, hb1⟩ : ∃ b1, b1 = b - 1 := ⟨_, rfl⟩
    obtain ⟨pa, hpa⟩ : ∃ pa, pa = p - a := ⟨_, rfl⟩
    obtain ⟨p', hp'⟩ : ∃ p', p' = b1 - pa := ⟨_, rfl⟩
    have w1 : IntKind.i64.wrap ((b : Int) - 1) = (b1 : Int) := wn (by omega) (by omega)
    have w2 : IntKind.i64.wrap ((p : Int) - (a : Int)) = (pa : Int) := wn (by omega) (by omega)
    have w3 : IntKind.i64.wrap ((b1 : Int) - (pa : Int)) = (p' : Int) := wn (by omega) (by omega)
    simp [-beq_iff_eq, -beq_eq_false_iff_ne, k122t5, z0, z1, z2, z11, z12, hv, w1, w2, w3, ← hH1, c1]
    refine t6_run hN ih (z := _) (wb := wb) (wp := wp) (hint := 1) ⟨by simp [z0], by simp [z1], by simp [z2], by simp [z3], by simp [z8], by simp [z9]⟩ hl (by simp [z10]) (by simp) (by simp) ?_ (L.perm p1) h12 hk hK (p := p') (by omega) (by omega) hn hn'
    repeat' first | exact sd3 | refine SD.bump ?_ _
set_option maxHeartbeats 16000000 in
theorem t4_run {A B kb N K n0 : Nat} (hN : N ≤ 1000000) {cap : Option Nat} (ih : SrtOK kb N cap K n0) {d0 : Array Int} {h0 : Heap} {d : Array Int} {h : Heap} {z : Env 134} {a b lim k : Nat} {wb wp : Bool} (P : PdV z kb N cap a b lim wb wp) (hl : lim ≤ 1000) (z10 : z.v 10 = D.int ((b - a : Nat) : Int)) (sd : SD kb d h0 h) (L : Lft A B N d0 a b d) (h12 : 12 < b - a) (hk : b - a ≤ k) (hK : b - a ≤ K) {n : Nat} (hn : n0 ≤ n) (hn' : 2 * N + 100 ≤ n) :
    Res (blockK 1 (k122t4.ev ⟨pg, 134, none⟩ (rc pg n) ⟨z.l, h, []⟩)) (Rnd (PdI A B kb N cap d0 h0) (PdF A B kb N d0 h0) k) := by
  obtain ⟨z0, z1, z2, z3, z8, z9⟩ := P
  have hbN := L.bN
  have hsz := L.sz
  obtain ⟨H1, hH1⟩ : ∃ H, H = h.bump 134 := ⟨_, rfl⟩
  have sd1 : SD kb d h0 H1 := hH1 ▸ sd.bump 134
  obtain ⟨h1, p, hint, r1, sd2, q1, q2⟩ := piv_sh sd1.g (by have := sd1.n; have := sd1.k; omega) sd1.fr hsz hN cap (a := a) (b := b) (by omega) hbN (n := n) (by omega)
  have c1 := call_sh (pg := pg) (f := 83) rfl r1
  have sd3 := sd1.trans sd2
  simp [k122t4, z0, z1, z2, ← hH1, c1]
  refine t5_run hN ih (z := _) (wb := wb) (wp := wp) (hint := hint) ⟨by simp [z0], by simp [z1], by simp [z2], by simp [z3], by simp [z8], by simp [z9]⟩ hl (by simp [z10]) (by simp) (by simp) ?_ L h12 hk hK q1 q2 hn hn'
  repeat' first | exact sd3 | refine SD.bump ?_ _
set_option maxHeartbeats 16000000 in
theorem t3_run {A B kb N K n0 : Nat} (hN : N ≤ 1000000) {cap : Option Nat} (ih : SrtOK kb N cap K n0) {d0 : Array Int} {h0 : Heap} {d : Array Int} {h : Heap} {z : Env 134} {a b lim k : Nat} {wb wp : Bool} (P : PdV z kb N cap a b lim wb wp) (hl : lim ≤ 1000) (hl0 : lim ≠ 0) (z10 : z.v 10 = D.int ((b - a : Nat) : Int)) (sd : SD kb d h0 h) (L : Lft A B N d0 a b d) (h12 : 12 < b - a) (hk : b - a ≤ k) (hK : b - a ≤ K) {n : Nat} (hn : n0 ≤ n) (hn' : 2 * N + 100 ≤ n) :
    Res (blockK 1 (k122t3.ev ⟨pg, 134, none⟩ (rc pg n) ⟨z.l, h, []⟩)) (Rnd (PdI A B kb N cap d0 h0) (PdF A B kb N d0 h0) k) := by
  obtain ⟨z0, z1, z2, z3, z8, z9⟩ := P
  have hbN := L.bN
  have hsz := L.sz
  cases wb with
  | true =>
    simp [k122t3, z8]
    refine t4_run hN ih (z := _) (wb := true) (wp := wp) ⟨by simp [z0], by simp [z1], by simp [z2], by simp [z3], by simp [z8], by simp [z9]⟩ hl (by simp [z10]) ?_ L h12 hk hK hn hn'
    repeat' first | exact sd | refine SD.bump ?_ _
  | false =>
    obtain ⟨H1, hH1⟩ : ∃ H, H = (h.bump 134).bump 134 := ⟨_, rfl⟩
    have sd1 : SD kb d h0 H1 := hH1 ▸ (sd.bump 134).bump 134
    obtain ⟨h1, d1, r1, sd2, s1, p1⟩ := brk_sh sd1.g (by have := sd1.n; have := sd1.k; omega) sd1.fr hsz hN cap (a := a) (b := b) (by omega) hbN (n := n) (by omega)
    have c1 := call_sh (pg := pg) (f := 82) rfl r1
    have sd3 := sd1.trans sd2
    obtain ⟨l1, hl1⟩ : ∃ l1, l1 = lim - 1 := ⟨_, rfl⟩
    have w1 : IntKind.i64.wrap ((lim : Int) - 1) = (l1 : Int) := wn (by omega) (by omega)
    simp [k122t3, z0, z1, z2, z3, z8, w1, ← hH1, c1]
    refine t4_run hN ih (z := _) (wb := false) (wp := wp) (lim := l1) ⟨by simp [z0], by simp [z1], by simp [z2], by simp, by simp [z8], by simp [z9]⟩ (by omega) (by simp [z10]) ?_ (L.perm p1) h12 hk hK hn hn'
    repeat' first | exact sd3 | refine SD.bump ?_ _
end Go.Proofs.YtmncdmpeeibgmaaGreatDoor
/- The library's sort, whole. -/
namespace Go.Proofs.YtmncdmpeeibgmaaGreatDoor
open Go Go.Em
open Go.Sort (PermIn SortedIn Below)
set_option maxRecDepth 100000
set_option linter.unusedSectionVars false
variable [Tl]
set_option maxHeartbeats 16000000 in
theorem t2_run {A B kb N K n0 : Nat} (hN : N ≤ 1000000) {cap : Option Nat} (ih : SrtOK kb N cap K n0) {d0 : Array Int} {h0 : Heap} {d : Array Int} {h : Heap} {z : Env 134} {a b lim k : Nat} {wb wp : Bool} (P : PdV z kb N cap a b lim wb wp) (hl : lim ≤ 1000) (z10 : z.v 10 = D.int ((b - a : Nat) : Int)) (sd : SD kb d h0 h) (L : Lft A B N d0 a b d) (h12 : 12 < b - a) (hk : b - a ≤ k) (hK : b - a ≤ K) {n : Nat} (hn : n0 ≤ n) (hn' : 2 * N + 100 ≤ n) :
    Res (blockK 1 (k122t2.ev ⟨pg, 134, none⟩ (rc pg n) ⟨z.l, h, []⟩)) (Rnd (PdI A B kb N cap d0 h0) (PdF A B kb N d0 h0) k) := by
  obtain ⟨z0, z1, z2, z3, z8, z9⟩ := P
  have hbN := L.bN
  have hsz := L.sz
  by_cases h0' : lim = 0
  · subst h0'
    obtain ⟨H1, hH1⟩ : ∃ H, H = (h.bump 134).bump 134 := ⟨_, rfl⟩
    have sd1 : SD kb d h0 H1 := hH1 ▸ (sd.bump 134).bump 134
    obtain ⟨h1, r1, sd2, s4⟩ := heap_sh sd1.g (by have := sd1.n; have := sd1.k; omega) sd1.fr hsz hN cap (a := a) (b := b) (by omega) hbN (n := n) (by omega)
    have c1 := call_sh (pg := pg) (f := 81) rfl r1
    have sd3 := sd1.trans sd2
    obtain ⟨p1, p2⟩ := Go.Sort.heapSort_holds (lt := lt) Go.Sort.swo_ltInt d a b (by omega) (by rw [hsz]; exact hbN)
    simp [k122t2, z0, z1, z2, z3, ← hH1, c1]
    refine L.fin p1 p2 ?_
    repeat' first | exact sd3 | refine SD.bump ?_ _
  · have hv : ((lim : Int) == 0) = false := by simp; omega
    simp [-beq_iff_eq, -beq_eq_false_iff_ne, k122t2, z3, hv]
    refine t3_run hN ih (z := _) (wb := wb) (wp := wp) ⟨by simp [z0], by simp [z1], by simp [z2], by simp [z3], by simp [z8], by simp [z9]⟩ hl h0' (by simp [z10]) ?_ L h12 hk hK hn hn'
    repeat' first | exact sd | refine SD.bump ?_ _
set_option maxHeartbeats 16000000 in
theorem pdq_round {A B kb N K n0 : Nat} (hN : N ≤ 1000000) {cap : Option Nat} (ih : SrtOK kb N cap K n0) (d0 : Array Int) (h0 : Heap) : ∀ n, n0 + 2 * N + 100 ≤ n → ∀ k s, k ≤ K ∧ PdI A B kb N cap d0 h0 k s → Res (k58l0.ev ⟨pg, 134, none⟩ (rc pg n) s) (Rnd (fun k s => k ≤ K ∧ PdI A B kb N cap d0 h0 k s) (PdF A B kb N d0 h0) k) := by
  rintro n hn k s ⟨hkK, x, h, d, a, b, lim, wb, wp, rfl, hk, ⟨z0, z1, z2, z3, z8, z9⟩, hl, sd, L⟩
  have hbN := L.bN
  have hab := L.ab
  have hsz := L.sz
  obtain ⟨len, hlen⟩ : ∃ len, len = b - a := ⟨_, rfl⟩
  have w1 : IntKind.i64.wrap ((b : Int) - (a : Int)) = (len : Int) := wn (by omega) (by omega)
  have key : ∀ x s, Rnd (PdI A B kb N cap d0 h0) (PdF A B kb N d0 h0) k x s → Rnd (fun k s => k ≤ K ∧ PdI A B kb N cap d0 h0 k s) (PdF A B kb N d0 h0) k x s := by
    intro x s hr
    cases x with
    | normal =>
      obtain ⟨j, h1, h2⟩ := hr
      exact ⟨j, h1, by omega, h2⟩
    | ret => exact hr
    | exit i => exact hr
    | pan d => exact hr
  rw [k122l0_eq]
  by_cases h12 : len ≤ 12
  · have h12' : (len : Int) ≤ 12 := by omega
    obtain ⟨H1, hH1⟩ : ∃ H, H = ((h.bump 134).bump 134).bump 134 := ⟨_, rfl⟩
    have sd1 : SD kb d h0 H1 := hH1 ▸ ((sd.bump 134).bump 134).bump 134
    obtain ⟨h1, r1, sd2, s4⟩ := insort_sh sd1.g (by have := sd1.n; have := sd1.k; omega) sd1.fr hsz hN cap (a := a) (b := b) hab hbN (n := n) (by omega)
    have c1 := call_sh (pg := pg) (f := 80) rfl r1
    have sd3 := sd1.trans sd2
    obtain ⟨p1, p2⟩ := Go.Sort.insertionSort_holds (lt := lt) Go.Sort.swo_ltInt d a b hab (by rw [hsz]; exact hbN)
    simp [z0, z1, z2, w1, h12', ← hH1, c1]
    refine L.fin p1 p2 ?_
    repeat' first | exact sd3 | refine SD.bump ?_ _
  · have h12' : ¬ (len : Int) ≤ 12 := by omega
    simp [z1, z2, w1, h12']
    refine Res.mono (t2_run hN ih (z := _) (wb := wb) (wp := wp) (d := d) (a := a) (b := b) (lim := lim) (k := k) ⟨by simp [z0], by simp [z1], by simp [z2], by simp [z3], by simp [z8], by simp [z9]⟩ hl (by simp [hlen]) ?_ L (by omega) hk (by omega) (by omega) (by omega)) key
    repeat' first | exact sd | refine SD.bump ?_ _
def pF (N : Nat) : Nat → Nat
  | 0 => 0
  | K + 1 => pF N K + 2 * N + 200 + K
set_option maxHeartbeats 16000000 in
theorem srt_ok (kb N : Nat) (hN : N ≤ 1000000) (cap : Option Nat) : ∀ K, SrtOK kb N cap K (pF N K) := by
  intro K
  induction K with
  | zero => intro d h a b lim n _ _ _ _ _ _ h1; omega
  | succ K ih =>
    intro d h a b lim n hg hk hf hd hab hb hK hB hl hn
    have hn' : pF N K + 2 * N + 200 + K ≤ n := hn
    obtain ⟨m, rfl, e⟩ := fn_body (pg := pg) (f := 58) (args := [.slr kb 0 N 1 cap, D.int a, D.int b, D.int lim]) (h := h) (show 0 < n by omega) rfl rfl
    rw [e]
    have sd := SD.refl hg hk hf
    simp [k58, ev_loop]
    have key : ∀ x s, PdF a b kb N d h x s → ∃ h', endH (rc pg m) [] (blockK 0 (some (x, s))) = some (.ret (.tup []), h') ∧ ∃ d', SD kb d' h h' ∧ d'.size = N ∧ PermIn a b d d' ∧ SortedIn lt a b d' := by
      rintro x s ⟨rfl, y, h1, R, rfl, sd1, s1, p1, o1⟩
      simp
      exact ⟨R, sd1, s1, p1, o1⟩
    have := Res.fin2 (id := 0) (R := rc pg m) (rs := []) (r := .ret (.tup [])) (C := fun h' => ∃ d', SD kb d' h h' ∧ d'.size = N ∧ PermIn a b d d' ∧ SortedIn lt a b d')
      (lp_rule (pF N K + 2 * N + 100) (fun k s => k ≤ K ∧ PdI a b kb N cap d h k s) (PdF a b kb N d h) (pdq_round hN ih d h) (b - a) m
        { e := (((Env.ini 134 [.slr kb 0 N 1 cap, D.int a, D.int b, D.int lim]).upd 8 (D.bool true)).upd 9 (D.bool true)).l, h := (h.bump 134).bump 134, df := [] } (by omega)
        ⟨by omega, _, _, d, a, b, lim, true, true, rfl, by omega, ⟨by simp [Env.v_ini], by simp [Env.v_ini], by simp [Env.v_ini], by simp [Env.v_ini], by simp, by simp⟩, hl, (sd.bump 134).bump 134, ⟨hab, hb, hd, hB, fun R h1 h2 => ⟨h1, h2⟩⟩⟩) key
    obtain ⟨h', h1, d', h2, h3, h4, h5⟩ := this
    exact ⟨h', h1, d', h2, h3, h4, h5⟩
theorem pF_le (N : Nat) : ∀ K, pF N K ≤ K * (2 * N + 200 + K)
  | 0 => Nat.zero_le _
  | K + 1 => by
    have h := pF_le N K
    have e : (K + 1) * (2 * N + 200 + (K + 1)) = K * (2 * N + 200 + K) + (2 * N + 200 + K) + (K + 1) := by
      rw [show 2 * N + 200 + (K + 1) = (2 * N + 200 + K) + 1 by omega, Nat.mul_succ, Nat.succ_mul]
    show pF N K + 2 * N + 200 + K ≤ _
    omega
end Go.Proofs.YtmncdmpeeibgmaaGreatDoor
/- The library's Sort. -/
namespace Go.Proofs.YtmncdmpeeibgmaaGreatDoor
open Go Go.Em
open Go.Sort (PermIn SortedIn Below)
set_option maxRecDepth 100000
set_option linter.unusedSectionVars false
variable [Tl]
set_option maxHeartbeats 8000000 in
theorem len_run0 {n : Nat} (hn : 1 ≤ n) : pureCall (rc pg n) 90 [wordD 0] = some (.ret (D.int 0)) := by
  obtain ⟨m, rfl, e⟩ := body (pg := pg) (f := 90) (args := [wordD 0]) (show 0 < n by omega) rfl rfl
  rw [e]
  have hw := wrap_u8 (a := 0) (by omega)
  have w1 : IntKind.i64.wrap 0 = 0 := by decide
  have w0 : IntKind.u8.wrap 0 = 0 := by decide
  simp [k90, Env.v_ini, w0, w1]
theorem lenw (x : Nat) (hx : x ≤ 1000000) {n : Nat} (hn : 2 ≤ n) : ∃ L : Nat, L ≤ 60 ∧ pureCall (rc pg n) 59 [wordD x] = some (.ret (D.int L)) := by
  by_cases h0 : x = 0
  · subst h0
    obtain ⟨m, rfl, e⟩ := body (pg := pg) (f := 59) (args := [wordD 0]) (show 0 < n by omega) rfl rfl
    rw [e]
    have c := fun h => call_of (h := h) (pg := pg) (f := 90) rfl rfl (len_run0 (n := m) (by omega))
    exact ⟨0, by omega, by simp [k59, Env.v_ini, c]⟩
  · obtain ⟨L, h1, _, h3⟩ := lenw_run x (by omega) hx hn
    exact ⟨L, h1, h3⟩
def srtL (l : List Int) : List Int := l.mergeSort (fun x y => !lt y x)
set_option maxHeartbeats 8000000 in
theorem sort_sh {kb : Nat} {l : List Int} {h : Heap} (hg : h.get kb = some (.cells 3 (dl l.toArray))) (hk : kb < h.next) (hf : h.Fr) {N : Nat} (hd : l.length = N) (hN : N ≤ 1000000) (cap : Option Nat) {n : Nat} (hn : (N + 1) * (3 * N + 201) + 10 ≤ n) :
    ∃ h', (rc pg n).fn 28 [.slr kb 0 N 1 cap] h = some (.ret (.tup []), h') ∧ SD kb (srtL l).toArray h h' := by
  obtain ⟨m, rfl, e⟩ := fn_body (pg := pg) (f := 28) (args := [.slr kb 0 N 1 cap]) (h := h) (show 0 < n by omega) rfl rfl
  rw [e]
  have hg' : h.get kb = some (.cells 3 (dl l.toArray)) := hg
  have sd := SD.refl hg' hk hf
  obtain ⟨L, hL, hL3⟩ := lenw N hN (n := m) (by omega)
  have c := fun h => call_of (h := h) (pg := pg) (f := 59) rfl rfl hL3
  have w5 : IntKind.u64.wrap (N : Int) = (N : Int) := wrap_u64 (by omega) (by omega)
  obtain ⟨H, hH⟩ : ∃ H, H = (h.bump 11).bump 11 := ⟨_, rfl⟩
  have sdH : SD kb l.toArray h H := hH ▸ (sd.bump 11).bump 11
  have hp := pF_le N (N + 1)
  have hpn : pF N (N + 1) ≤ m := by
    have h4 : (N + 1) * (2 * N + 200 + (N + 1)) = (N + 1) * (3 * N + 201) := by congr 1; omega
    rw [h4] at hp
    generalize (N + 1) * (3 * N + 201) = F at *
    omega
  obtain ⟨h', d', r1, sd2, s2, p2, o2⟩ := srt_ok kb N hN cap (N + 1) l.toArray H 0 N L m sdH.g (by have := sdH.n; have := sdH.k; omega) sdH.fr (by simpa using hd) (by omega) (Nat.le_refl _) (by omega) (.inl rfl) (by omega) hpn
  have cs := call_sh (pg := pg) (f := 58) rfl r1
  have z0 : D.int ((0 : Nat) : Int) = D.int 0 := rfl
  rw [z0] at cs
  have hs : l.toArray.size = N := by simpa using hd
  have hu := Go.Sort.sorted_unique_holds (lt := lt) Go.Sort.swo_ltInt (fun x y h1 h2 => by
    simp only [lt, Go.Sort.ltInt, decide_eq_false_iff_not] at h1 h2; omega) l.toArray d' (by rw [hs]; exact p2) (by rw [hs]; exact o2)
  have he : d' = (srtL l).toArray := by
    have : d'.toList = srtL l := hu
    rw [← this]
  have sd3 := sdH.trans sd2
  rw [he] at sd3
  simp [k28, Env.v_ini, w5, c, ← hH, cs]
  repeat' first | exact sd3 | refine SD.bump ?_ _
end Go.Proofs.YtmncdmpeeibgmaaGreatDoor
