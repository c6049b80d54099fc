/- The library's sort: a round of pattern-defeating quicksort, from behind. -/
import Derived.Test.YtlddgfkdicgbeaaGreatDoorKt4
namespace Go.Proofs.YtlddgfkdicgbeaaGreatDoor
open Go Go.Em
set_option maxRecDepth 100000
def k80t8 : Cd :=
  .seq (.region [⟨none, some 106, .inl (.mv (.s 0))⟩, ⟨none, some 107, .inl (.mv (.s 1))⟩, ⟨none, some 108, .inl (.mv (.s 2))⟩, ⟨none, some 109, .inl (.mv (.s 13))⟩, ⟨none, some 110, .inl (.mv (.s 4))⟩, ⟨none, some 111, .inr (.fn 114 [(.s 106), (.s 107), (.s 108), (.s 109), (.s 110)])⟩, ⟨none, some 105, .inl (.mv (.s 111))⟩, ⟨none, some 112, .inl (.ex (.s 105) 0)⟩, ⟨none, some 113, .inl (.ex (.s 105) 1)⟩, ⟨none, some 16, .inl (.mv (.s 112))⟩, ⟨none, some 17, .inl (.mv (.s 113))⟩]) (.seq (.region [⟨none, some 114, .inl (.mv (.s 17))⟩, ⟨none, some 11, .inl (.mv (.s 114))⟩]) (.seq (.region [⟨none, some 115, .inl (.mv (.s 16))⟩, ⟨none, some 116, .inl (.mv (.s 1))⟩, ⟨none, some 117, .inl (.bin .sub (.s 115) (.s 116))⟩, ⟨none, some 118, .inl (.mv (.s 2))⟩, ⟨none, some 119, .inl (.mv (.s 16))⟩, ⟨none, some 120, .inl (.bin .sub (.s 118) (.s 119))⟩, ⟨none, some 18, .inl (.mv (.s 117))⟩, ⟨none, some 19, .inl (.mv (.s 120))⟩]) (.seq (.region [⟨none, some 121, .inl (.mv (.s 12))⟩, ⟨none, some 122, .inl (.bin .quo (.s 121) (.c (.int .i64 8)))⟩, ⟨none, some 20, .inl (.mv (.s 122))⟩]) (.seq (.region [⟨none, some 123, .inl (.mv (.s 18))⟩, ⟨none, some 124, .inl (.mv (.s 19))⟩, ⟨none, some 125, .inl (.bin .lss (.s 123) (.s 124))⟩]) (.cond (.s 125) (.seq (.region [⟨none, some 126, .inl (.mv (.s 18))⟩, ⟨none, some 127, .inl (.mv (.s 20))⟩, ⟨none, some 128, .inl (.bin .geq (.s 126) (.s 127))⟩, ⟨none, some 10, .inl (.mv (.s 128))⟩]) (.seq (.region [⟨none, some 129, .inl (.mv (.s 0))⟩, ⟨none, some 130, .inl (.mv (.s 1))⟩, ⟨none, some 131, .inl (.mv (.s 16))⟩, ⟨none, some 132, .inl (.mv (.s 3))⟩, ⟨none, some 133, .inl (.mv (.s 4))⟩, ⟨none, some 134, .inr (.fn 80 [(.s 129), (.s 130), (.s 131), (.s 132), (.s 133)])⟩]) (.region [⟨none, some 135, .inl (.mv (.s 16))⟩, ⟨none, some 136, .inl (.bin .add (.s 135) (.c (.int .i64 1)))⟩, ⟨none, some 1, .inl (.mv (.s 136))⟩]))) (.seq (.region [⟨none, some 137, .inl (.mv (.s 19))⟩, ⟨none, some 138, .inl (.mv (.s 20))⟩, ⟨none, some 139, .inl (.bin .geq (.s 137) (.s 138))⟩, ⟨none, some 10, .inl (.mv (.s 139))⟩]) (.seq (.region [⟨none, some 140, .inl (.mv (.s 0))⟩, ⟨none, some 141, .inl (.mv (.s 16))⟩, ⟨none, some 142, .inl (.bin .add (.s 141) (.c (.int .i64 1)))⟩, ⟨none, some 143, .inl (.mv (.s 2))⟩, ⟨none, some 144, .inl (.mv (.s 3))⟩, ⟨none, some 145, .inl (.mv (.s 4))⟩, ⟨none, some 146, .inr (.fn 80 [(.s 140), (.s 142), (.s 143), (.s 144), (.s 145)])⟩]) (.region [⟨none, some 147, .inl (.mv (.s 16))⟩, ⟨none, some 2, .inl (.mv (.s 147))⟩]))))))))
def k80t7 : Cd :=
  .seq (.seq (.draw [⟨⟨none, some 81, .inl (.mv (.s 1))⟩, some [], [], 0, false⟩, ⟨⟨none, some 82, .inl (.bin .gtr (.s 81) (.c (.int .i64 0)))⟩, some [], [], 1, false⟩, ⟨⟨none, some 83, .inl (.mv (.s 82))⟩, some [], [], 3, false⟩, ⟨⟨some (83, true), some 84, .inl (.mv (.s 4))⟩, some [], [], 7, false⟩, ⟨⟨some (83, true), some 85, .inl (.mv (.s 0))⟩, some [], [], 7, false⟩, ⟨⟨some (83, true), some 86, .inl (.mv (.s 1))⟩, some [], [], 7, false⟩, ⟨⟨some (83, true), some 87, .inl (.bin .sub (.s 86) (.c (.int .i64 1)))⟩, some [], [], 39, false⟩, ⟨⟨some (83, true), some 88, .inl (.ias 3 (.s 85) (.s 87))⟩, some [], [], 119, false⟩, ⟨⟨some (83, true), some 89, .inl (.ld true 3 (.s 88))⟩, some [], [], 247, false⟩, ⟨⟨some (83, true), some 90, .inl (.mv (.s 0))⟩, some [], [], 7, false⟩, ⟨⟨some (83, true), some 91, .inl (.mv (.s 13))⟩, some [], [], 7, false⟩, ⟨⟨some (83, true), some 92, .inl (.ias 3 (.s 90) (.s 91))⟩, some [], [], 1543, false⟩, ⟨⟨some (83, true), some 93, .inl (.ld true 3 (.s 92))⟩, some [], [], 3591, false⟩, ⟨⟨some (83, true), some 94, .inr (.val true (.s 84) [(.s 89), (.s 93)])⟩, some [], [], 8191, false⟩, ⟨⟨some (83, true), some 95, .inl (.bin .lss (.s 94) (.c (.int .i64 0)))⟩, some [], [], 16383, false⟩, ⟨⟨some (83, true), some 96, .inl (.not (.s 95))⟩, some [], [], 32767, false⟩, ⟨⟨none, some 97, .inl (.pick (.s 83) (.s 96) (.c (.bool false)))⟩, some [], [], 65535, false⟩]) (.cond (.s 97) (.seq (.region [⟨none, some 98, .inl (.mv (.s 0))⟩, ⟨none, some 99, .inl (.mv (.s 1))⟩, ⟨none, some 100, .inl (.mv (.s 2))⟩, ⟨none, some 101, .inl (.mv (.s 13))⟩, ⟨none, some 102, .inl (.mv (.s 4))⟩, ⟨none, some 103, .inr (.fn 113 [(.s 98), (.s 99), (.s 100), (.s 101), (.s 102)])⟩, ⟨none, some 15, .inl (.mv (.s 103))⟩]) (.seq (.region [⟨none, some 104, .inl (.mv (.s 15))⟩, ⟨none, some 1, .inl (.mv (.s 104))⟩]) (.exit 1))) .skip)) k80t8
def k80t6 : Cd :=
  .seq (.seq (.region [⟨none, some 68, .inl (.mv (.s 10))⟩, ⟨none, some 69, .inl (.mv (.s 68))⟩, ⟨some (69, true), some 70, .inl (.mv (.s 11))⟩, ⟨none, some 71, .inl (.pick (.s 69) (.s 70) (.c (.bool false)))⟩, ⟨none, some 72, .inl (.mv (.s 71))⟩, ⟨some (72, true), some 73, .inl (.mv (.s 14))⟩, ⟨some (72, true), some 74, .inl (.bin .eql (.s 73) (.c (.int .i64 1)))⟩, ⟨none, some 75, .inl (.pick (.s 72) (.s 74) (.c (.bool false)))⟩]) (.cond (.s 75) (.seq (.region [⟨none, some 76, .inl (.mv (.s 0))⟩, ⟨none, some 77, .inl (.mv (.s 1))⟩, ⟨none, some 78, .inl (.mv (.s 2))⟩, ⟨none, some 79, .inl (.mv (.s 4))⟩, ⟨none, some 80, .inr (.fn 112 [(.s 76), (.s 77), (.s 78), (.s 79)])⟩]) (.cond (.s 80) .ret .skip)) .skip)) k80t7
def k80t5 : Cd :=
  .seq (.seq (.region [⟨none, some 55, .inl (.mv (.s 14))⟩, ⟨none, some 56, .inl (.bin .eql (.s 55) (.c (.int .i64 2)))⟩]) (.cond (.s 56) (.seq (.region [⟨none, some 57, .inl (.mv (.s 0))⟩, ⟨none, some 58, .inl (.mv (.s 1))⟩, ⟨none, some 59, .inl (.mv (.s 2))⟩, ⟨none, some 60, .inl (.mv (.s 4))⟩, ⟨none, some 61, .inr (.fn 111 [(.s 57), (.s 58), (.s 59), (.s 60)])⟩]) (.seq (.region [⟨none, some 62, .inl (.mv (.s 2))⟩, ⟨none, some 63, .inl (.bin .sub (.s 62) (.c (.int .i64 1)))⟩, ⟨none, some 64, .inl (.mv (.s 13))⟩, ⟨none, some 65, .inl (.mv (.s 1))⟩, ⟨none, some 66, .inl (.bin .sub (.s 64) (.s 65))⟩, ⟨none, some 67, .inl (.bin .sub (.s 63) (.s 66))⟩, ⟨none, some 13, .inl (.mv (.s 67))⟩]) (.region [⟨none, some 14, .inl (.mv (.c (.int .i64 1)))⟩]))) .skip)) k80t6
def k80t4 : Cd :=
  .seq (.region [⟨none, some 48, .inl (.mv (.s 0))⟩, ⟨none, some 49, .inl (.mv (.s 1))⟩, ⟨none, some 50, .inl (.mv (.s 2))⟩, ⟨none, some 51, .inl (.mv (.s 4))⟩, ⟨none, some 52, .inr (.fn 110 [(.s 48), (.s 49), (.s 50), (.s 51)])⟩, ⟨none, some 47, .inl (.mv (.s 52))⟩, ⟨none, some 53, .inl (.ex (.s 47) 0)⟩, ⟨none, some 54, .inl (.ex (.s 47) 1)⟩, ⟨none, some 13, .inl (.mv (.s 53))⟩, ⟨none, some 14, .inl (.mv (.s 54))⟩]) k80t5
def k80t3 : Cd :=
  .seq (.seq (.region [⟨none, some 38, .inl (.mv (.s 10))⟩, ⟨none, some 39, .inl (.not (.s 38))⟩]) (.cond (.s 39) (.seq (.region [⟨none, some 40, .inl (.mv (.s 0))⟩, ⟨none, some 41, .inl (.mv (.s 1))⟩, ⟨none, some 42, .inl (.mv (.s 2))⟩, ⟨none, some 43, .inl (.mv (.s 4))⟩, ⟨none, some 44, .inr (.fn 109 [(.s 40), (.s 41), (.s 42), (.s 43)])⟩]) (.region [⟨none, some 45, .inl (.mv (.s 3))⟩, ⟨none, some 46, .inl (.bin .sub (.s 45) (.c (.int .i64 1)))⟩, ⟨none, some 3, .inl (.mv (.s 46))⟩])) .skip)) k80t4
def k80t2 : Cd :=
  .seq (.seq (.region [⟨none, some 31, .inl (.mv (.s 3))⟩, ⟨none, some 32, .inl (.bin .eql (.s 31) (.c (.int .i64 0)))⟩]) (.cond (.s 32) (.seq (.region [⟨none, some 33, .inl (.mv (.s 0))⟩, ⟨none, some 34, .inl (.mv (.s 1))⟩, ⟨none, some 35, .inl (.mv (.s 2))⟩, ⟨none, some 36, .inl (.mv (.s 4))⟩, ⟨none, some 37, .inr (.fn 108 [(.s 33), (.s 34), (.s 35), (.s 36)])⟩]) .ret) .skip)) k80t3
theorem k80l0_eq : k80l0 = .block 1 (.seq (.region [⟨none, some 21, .inl (.mv (.s 2))⟩, ⟨none, some 22, .inl (.mv (.s 1))⟩, ⟨none, some 23, .inl (.bin .sub (.s 21) (.s 22))⟩, ⟨none, some 12, .inl (.mv (.s 23))⟩]) (.seq (.seq (.region [⟨none, some 24, .inl (.mv (.s 12))⟩, ⟨none, some 25, .inl (.bin .leq (.s 24) (.c (.int .i64 12)))⟩]) (.cond (.s 25) (.seq (.region [⟨none, some 26, .inl (.mv (.s 0))⟩, ⟨none, some 27, .inl (.mv (.s 1))⟩, ⟨none, some 28, .inl (.mv (.s 2))⟩, ⟨none, some 29, .inl (.mv (.s 4))⟩, ⟨none, some 30, .inr (.fn 107 [(.s 26), (.s 27), (.s 28), (.s 29)])⟩]) .ret) .skip)) k80t2)) := rfl
open Go.Sort (PermIn SortedIn Below)
def SrtOK (kb N : Nat) (cap : Option Nat) (K n0 : Nat) : Prop := ∀ (d : Array EE) (h : Heap) (a b lim n : Nat), h.get kb = some (.cells 74 (eCs d)) → kb < h.next → h.Fr → d.size = N → a ≤ b → b ≤ N → b - a < K → Below lt a b d → lim ≤ 1000 → n0 ≤ n → ∃ h' d', (rc pg n).fn 80 [.slr kb 0 N 3 cap, D.int a, D.int b, D.int lim, cF] h = some (.ret (.tup []), h') ∧ SD kb d' h h' ∧ d'.size = N ∧ PermIn a b d d' ∧ SortedIn lt a b d'
structure Lft (A B N : Nat) (d0 : Array EE) (a b : Nat) (d : Array EE) : Prop where
  ab : a ≤ b
  bN : b ≤ N
  sz : d.size = N
  bl : Below lt a b d
  gl : ∀ R, PermIn a b d R → SortedIn lt a b R → PermIn A B d0 R ∧ SortedIn lt A B R
theorem Lft.perm {A B N : Nat} {d0 : Array EE} {a b : Nat} {d d' : Array EE} (L : Lft A B N d0 a b d) (p : PermIn a b d d') : Lft A B N d0 a b d' :=
  ⟨L.ab, L.bN, by rw [p.1]; exact L.sz, L.bl.perm (by rw [L.sz]; exact L.bN) p, fun R h1 h2 => L.gl R (Go.Sort.permIn_trans _ _ _ a b p h1) h2⟩
def PdV (z : Env 148) (kb N : Nat) (cap : Option Nat) (a b lim : Nat) (wb wp : Bool) : Prop := (z.v 0 = .slr kb 0 N 3 cap ∧ z.v 4 = cF) ∧ z.v 1 = D.int a ∧ z.v 2 = D.int b ∧ z.v 3 = D.int lim ∧ z.v 10 = D.bool wb ∧ z.v 11 = D.bool wp
def PdI (A B kb N : Nat) (cap : Option Nat) (d0 : Array EE) (h0 : Heap) (k : Nat) (s : St) : Prop := ∃ (x : Env 148) (h : Heap) (d : Array EE) (a b lim : Nat) (wb wp : Bool), s = ⟨x.l, h, []⟩ ∧ b - a ≤ k ∧ PdV x kb N cap a b lim wb wp ∧ lim ≤ 1000 ∧ SD kb d h0 h ∧ Lft A B N d0 a b d
def PdF (A B kb N : Nat) (d0 : Array EE) (h0 : Heap) (x : Ex) (s : St) : Prop := x = .ret ∧ ∃ (y : Env 148) (h : Heap) (R : Array EE), s = ⟨y.l, h, []⟩ ∧ SD kb R h0 h ∧ R.size = N ∧ PermIn A B d0 R ∧ SortedIn lt A B R
theorem Lft.fin {A B kb N : Nat} {d0 : Array EE} {a b : Nat} {d R : Array EE} (L : Lft A B N d0 a b d) (p : PermIn a b d R) (s : SortedIn lt a b R) {h0 h : Heap} (sd : SD kb R h0 h) {y : Env 148} : PdF A B kb N d0 h0 .ret ⟨y.l, h, []⟩ :=
  ⟨rfl, y, h, R, rfl, sd, by rw [p.1]; exact L.sz, (L.gl R p s).1, (L.gl R p s).2⟩
set_option maxHeartbeats 16000000 in
theorem t8_run {A B kb N K n0 : Nat} (hN : N ≤ 10000000) {cap : Option Nat} (ih : SrtOK kb N cap K n0) {d0 : Array EE} {h0 : Heap} {d : Array EE} {h : Heap} {z : Env 148} {a b lim p k : Nat} {wb wp : Bool} (P : PdV z kb N cap a b lim wb wp) (hl : lim ≤ 1000) (z10 : z.v 12 = D.int ((b - a : Nat) : Int)) (z11 : z.v 13 = D.int p) (sd : SD kb d h0 h) (L : Lft A B N d0 a b d) (h12 : 12 < b - a) (hk : b - a ≤ k) (hK : b - a ≤ K) (hp1 : a ≤ p) (hp2 : p < b) {n : Nat} (hn : n0 ≤ n) (hn' : 2 * N + 100 ≤ n) :
    Res (blockK 1 (k80t8.ev ⟨pg, 148, none⟩ (rc pg n) ⟨z.l, h, []⟩)) (Rnd (PdI A B kb N cap d0 h0) (PdF A B kb N d0 h0) k) := by
  obtain ⟨⟨z0, zc⟩, z1, z2, z3, z8, z9⟩ := P
  obtain ⟨len, hlen⟩ : ∃ len, len = b - a := ⟨_, rfl⟩
  rw [← hlen] at z10
  have hbN := L.bN
  have hsz := L.sz
  obtain ⟨r, hr⟩ : ∃ r, Go.Sort.partition lt d a b p = r := ⟨_, rfl⟩
  obtain ⟨mid, ap, d4⟩ := r
  obtain ⟨m1, m2, m3, m4, m5, m6, m7⟩ := Go.Sort.round_part swo_lt (Go.Sort.partition_holds lt) hp1 hp2 (by rw [hsz]; exact hbN) L.bl hr
  obtain ⟨H1, hH1⟩ : ∃ H, H = h.bump 148 := ⟨_, rfl⟩
  have sd1 : SD kb d h0 H1 := hH1 ▸ sd.bump 148
  obtain ⟨h1, r1, sd2, s4⟩ := part_sh sd1.g (by have := sd1.n; have := sd1.k; omega) sd1.fr hsz hN cap hp1 hp2 hbN (n := n) (by omega) hr
  have c1 := call_sh (pg := pg) (f := 114) rfl r1
  have sd3 := sd1.trans sd2
  simp only at c1 sd3 s4
  obtain ⟨th, hth⟩ : ∃ th, th = len / 8 := ⟨_, rfl⟩
  obtain ⟨lf, hlf⟩ : ∃ lf, lf = mid - a := ⟨_, rfl⟩
  obtain ⟨rg, hrg⟩ : ∃ rg, rg = b - mid := ⟨_, rfl⟩
  obtain ⟨md, hmd⟩ : ∃ md, md = mid + 1 := ⟨_, rfl⟩
  have w0 : bin .quo (.int .i64 (len : Int)) (.int .i64 8) = some (.int .i64 (th : Int)) := by
    rw [bin_quo (by omega), wn (m := th) (by rw [hth, Int.tdiv_eq_ediv_of_nonneg (by omega)]; omega) (by omega)]
  have w1 : IntKind.i64.wrap ((mid : Int) - (a : Int)) = (lf : Int) := wn (by omega) (by omega)
  have w2 : IntKind.i64.wrap ((b : Int) - (mid : Int)) = (rg : Int) := wn (by omega) (by omega)
  have w3 : IntKind.i64.wrap ((mid : Int) + 1) = (md : Int) := wn (by omega) (by omega)
  by_cases hc : lf < rg
  · obtain ⟨H2, hH2⟩ : ∃ H, H = (((((h1.bump 148).bump 148).bump 148).bump 148).bump 148).bump 148 := ⟨_, rfl⟩
    have sdH2 : SD kb d4 h0 H2 := by
      rw [hH2]; repeat' first | exact sd3 | refine SD.bump ?_ _
    obtain ⟨h2, dL, r2, sdL, sL, pL, oL⟩ := ih d4 H2 a mid lim n sdH2.g (by have := sdH2.n; have := sdH2.k; omega) sdH2.fr s4 m1 (by omega) (by omega) m4 hl hn
    have c2 := call_sh (pg := pg) (f := 80) rfl r2
    obtain ⟨bl, gl⟩ := m6 dL pL oL
    simp [k80t8, z0, zc, z1, z2, z3, z10, z11, w0, w1, w2, w3, hc, ← hH1, c1, ← hH2, c2]
    refine ⟨k - 1, by omega, _, _, dL, md, b, lim, _, ap, rfl, by omega, ⟨⟨by simp [z0], by simp [zc]⟩, by simp, by simp [z2], by simp [z3], by simp; rfl, by simp⟩, hl, ?_, ⟨by omega, hbN, sL, by rw [hmd]; exact bl, fun R h1 h2 => ?_⟩⟩
    · have := sdH2.trans sdL
      repeat' first | exact this | refine SD.bump ?_ _
    · rw [hmd] at h1 h2
      obtain ⟨g1, g2⟩ := gl R h1 h2
      exact L.gl R g1 g2
  · obtain ⟨H2, hH2⟩ : ∃ H, H = (((((h1.bump 148).bump 148).bump 148).bump 148).bump 148).bump 148 := ⟨_, rfl⟩
    have sdH2 : SD kb d4 h0 H2 := by
      rw [hH2]; repeat' first | exact sd3 | refine SD.bump ?_ _
    obtain ⟨h2, dL, r2, sdL, sL, pL, oL⟩ := ih d4 H2 md b lim n sdH2.g (by have := sdH2.n; have := sdH2.k; omega) sdH2.fr s4 (by omega) hbN (by omega) (by rw [hmd]; exact m5) hl hn
    have c2 := call_sh (pg := pg) (f := 80) rfl r2
    rw [hmd] at pL oL
    obtain ⟨bl, gl⟩ := m7 dL pL oL
    simp [k80t8, z0, zc, z1, z2, z3, z10, z11, w0, w1, w2, w3, hc, ← hH1, c1, ← hH2, c2]
    refine ⟨k - 1, by omega, _, _, dL, a, mid, lim, _, ap, rfl, by omega, ⟨⟨by simp [z0], by simp [zc]⟩, by simp [z1], by simp, by simp [z3], by simp; rfl, by simp⟩, hl, ?_, ⟨m1, by omega, sL, bl, fun R h1 h2 => ?_⟩⟩
    · have := sdH2.trans sdL
      repeat' first | exact this | refine SD.bump ?_ _
    · obtain ⟨g1, g2⟩ := gl R h1 h2
      exact L.gl R g1 g2
end Go.Proofs.YtlddgfkdicgbeaaGreatDoor
/- The library's sort: a round of pattern-defeating quicksort: the part of equals, the attempt at once, the reversal. -/
namespace Go.Proofs.YtlddgfkdicgbeaaGreatDoor
open Go Go.Em
open Go.Sort (PermIn SortedIn Below)
set_option maxRecDepth 100000
set_option maxHeartbeats 16000000 in
theorem t7_run {A B kb N K n0 : Nat} (hN : N ≤ 10000000) {cap : Option Nat} (ih : SrtOK kb N cap K n0) {d0 : Array EE} {h0 : Heap} {d : Array EE} {h : Heap} {z : Env 148} {a b lim p k : Nat} {wb wp : Bool} (P : PdV z kb N cap a b lim wb wp) (hl : lim ≤ 1000) (z10 : z.v 12 = D.int ((b - a : Nat) : Int)) (z11 : z.v 13 = D.int p) (sd : SD kb d h0 h) (L : Lft A B N d0 a b d) (h12 : 12 < b - a) (hk : b - a ≤ k) (hK : b - a ≤ K) (hp1 : a ≤ p) (hp2 : p < b) {n : Nat} (hn : n0 ≤ n) (hn' : 2 * N + 100 ≤ n) :
    Res (blockK 1 (k80t7.ev ⟨pg, 148, none⟩ (rc pg n) ⟨z.l, h, []⟩)) (Rnd (PdI A B kb N cap d0 h0) (PdF A B kb N d0 h0) k) := by
  obtain ⟨⟨z0, zc⟩, z1, z2, z3, z8, z9⟩ := P
  have hbN := L.bN
  have hsz := L.sz
  have g := sd.g
  by_cases ha : 0 < a
  · have ha' : (0 : Int) < (a : Int) := by omega
    obtain ⟨q, hq⟩ : ∃ q, q = a - 1 := ⟨_, rfl⟩
    have w1 : IntKind.i64.wrap ((a : Int) - 1) = (q : Int) := wn (by omega) (by omega)
    have hqN : q < d.size := by omega
    have hpN : p < d.size := by omega
    have l1 : q < N := by omega
    have l2 : p < N := by omega
    have l3 : q + 1 ≤ N := by omega
    have l4 : p + 1 ≤ N := by omega
    obtain ⟨C, hC⟩ : ∃ C, C = eCs d := ⟨_, rfl⟩
    obtain ⟨va, f1, e1, y1⟩ := get_fact hqN hC
    obtain ⟨vb, f2, e2, y2⟩ := get_fact hpN hC
    rw [← hC] at g
    cases hlt : lt va vb with
    | true =>
      obtain ⟨zr, r, rr⟩ := lss_c (n := n) (by omega) hlt
      simp [k80t7, z0, zc, z1, z11, ha, w1, g, e1, f1, e2, f2, l1, l2, r, rr]
      refine t8_run hN ih (z := _) (wb := wb) (wp := wp) ⟨⟨by simp [z0], by simp [zc]⟩, by simp [z1], by simp [z2], by simp [z3], by simp [z8], by simp [z9]⟩ hl (by simp [z10]) (by simp [z11]) ?_ L h12 hk hK hp1 hp2 hn hn'
      repeat' first | exact sd | refine SD.bump ?_ _
    | false =>
      obtain ⟨zr, r, rr⟩ := lss_c (n := n) (by omega) hlt
      obtain ⟨rw1, hr⟩ : ∃ r, Go.Sort.partitionEqual lt d a b p = r := ⟨_, rfl⟩
      obtain ⟨mid, d4⟩ := rw1
      obtain ⟨m1, m2, m3, m4, m5⟩ := Go.Sort.round_eq swo_lt (Go.Sort.partitionEqual_holds lt) ha hp1 hp2 (by rw [hsz]; exact hbN) L.bl (by rw [← hq, y1, y2]; exact hlt) hr
      obtain ⟨H1, hH1⟩ : ∃ H, H = (h.bump 148).bump 148 := ⟨_, rfl⟩
      have sd1 : SD kb d h0 H1 := hH1 ▸ (sd.bump 148).bump 148
      obtain ⟨h1, r1, sd2, s4⟩ := partE_sh sd1.g (by have := sd1.n; have := sd1.k; omega) sd1.fr hsz hN cap hp1 hp2 hbN (n := n) (by omega) hr
      have c1 := call_sh (pg := pg) (f := 113) rfl r1
      have sd3 := sd1.trans sd2
      simp only at c1 sd3 s4
      simp [k80t7, z0, zc, z1, z2, z11, ha, w1, g, e1, f1, e2, f2, l1, l2, r, rr, ← hH1, c1]
      refine ⟨k - 1, by omega, _, _, d4, mid, b, lim, wb, wp, rfl, by omega, ⟨⟨by simp [z0], by simp [zc]⟩, by simp, by simp [z2], by simp [z3], by simp [z8], by simp [z9]⟩, hl, ?_, ⟨m2, hbN, s4, m4, fun R h1 h2 => ?_⟩⟩
      · repeat' first | exact sd3 | refine SD.bump ?_ _
      · obtain ⟨g1, g2⟩ := m5 R h1 h2
        exact L.gl R g1 g2
  · have ha' : ¬ (0 : Int) < (a : Int) := by omega
    simp [k80t7, z1, ha]
    refine t8_run hN ih (z := _) (wb := wb) (wp := wp) ⟨⟨by simp [z0], by simp [zc]⟩, by simp [z1], by simp [z2], by simp [z3], by simp [z8], by simp [z9]⟩ hl (by simp [z10]) (by simp [z11]) ?_ L h12 hk hK hp1 hp2 hn hn'
    repeat' first | exact sd | refine SD.bump ?_ _
set_option maxHeartbeats 16000000 in
theorem t6_run {A B kb N K n0 : Nat} (hN : N ≤ 10000000) {cap : Option Nat} (ih : SrtOK kb N cap K n0) {d0 : Array EE} {h0 : Heap} {d : Array EE} {h : Heap} {z : Env 148} {a b lim p k hint : Nat} {wb wp : Bool} (P : PdV z kb N cap a b lim wb wp) (hl : lim ≤ 1000) (z10 : z.v 12 = D.int ((b - a : Nat) : Int)) (z11 : z.v 13 = D.int p) (z12 : z.v 14 = D.int hint) (sd : SD kb d h0 h) (L : Lft A B N d0 a b d) (h12 : 12 < b - a) (hk : b - a ≤ k) (hK : b - a ≤ K) (hp1 : a ≤ p) (hp2 : p < b) {n : Nat} (hn : n0 ≤ n) (hn' : 2 * N + 100 ≤ n) :
    Res (blockK 1 (k80t6.ev ⟨pg, 148, none⟩ (rc pg n) ⟨z.l, h, []⟩)) (Rnd (PdI A B kb N cap d0 h0) (PdF A B kb N d0 h0) k) := by
  obtain ⟨⟨z0, zc⟩, z1, z2, z3, z8, z9⟩ := P
  have hbN := L.bN
  have hsz := L.sz
  obtain ⟨v, hv⟩ : ∃ v : Bool, v = (wb && wp && ((hint : Int) == 1)) := ⟨_, rfl⟩
  cases v with
  | false =>
    cases wb with
    | false =>
      simp [k80t6, z8]
      refine t7_run hN ih (z := _) (wb := false) (wp := wp) ⟨⟨by simp [z0], by simp [zc]⟩, by simp [z1], by simp [z2], by simp [z3], by simp [z8], by simp [z9]⟩ hl (by simp [z10]) (by simp [z11]) ?_ L h12 hk hK hp1 hp2 hn hn'
      repeat' first | exact sd | refine SD.bump ?_ _
    | true =>
      cases wp with
      | false =>
        simp [k80t6, z8, z9]
        refine t7_run hN ih (z := _) (wb := true) (wp := false) ⟨⟨by simp [z0], by simp [zc]⟩, by simp [z1], by simp [z2], by simp [z3], by simp [z8], by simp [z9]⟩ hl (by simp [z10]) (by simp [z11]) ?_ L h12 hk hK hp1 hp2 hn hn'
        repeat' first | exact sd | refine SD.bump ?_ _
      | true =>
        have hv' : ((hint : Int) == 1) = false := by simpa using hv.symm
        simp [-beq_iff_eq, -beq_eq_false_iff_ne, k80t6, z8, z9, z12, hv']
        refine t7_run hN ih (z := _) (wb := true) (wp := true) ⟨⟨by simp [z0], by simp [zc]⟩, by simp [z1], by simp [z2], by simp [z3], by simp [z8], by simp [z9]⟩ hl (by simp [z10]) (by simp [z11]) ?_ L h12 hk hK hp1 hp2 hn hn'
        repeat' first | exact sd | refine SD.bump ?_ _
  | true =>
    have hv3 : wb = true ∧ wp = true ∧ ((hint : Int) == 1) = true := by
      have hv4 := hv.symm
      rw [Bool.and_eq_true, Bool.and_eq_true] at hv4
      exact ⟨hv4.1.1, hv4.1.2, hv4.2⟩
    obtain ⟨rfl, rfl, hv'⟩ := hv3
    obtain ⟨H1, hH1⟩ : ∃ H, H = (h.bump 148).bump 148 := ⟨_, rfl⟩
    have sd1 : SD kb d h0 H1 := hH1 ▸ (sd.bump 148).bump 148
    obtain ⟨h1, r1, sd2, s4⟩ := pins_sh sd1.g (by have := sd1.n; have := sd1.k; omega) sd1.fr hsz hN cap (a := a) (b := b) (by omega) hbN (n := n) (by omega)
    have c1 := call_sh (pg := pg) (f := 112) rfl r1
    have sd3 := sd1.trans sd2
    obtain ⟨p1, p2⟩ := Go.Sort.partialInsertionSort_holds (lt := lt) swo_lt d a b (by omega) (by rw [hsz]; exact hbN) L.bl
    obtain ⟨d1, hd1⟩ : ∃ d1, d1 = (Go.Sort.partialInsertionSort lt d a b).1 := ⟨_, rfl⟩
    obtain ⟨ok, hok⟩ : ∃ ok, ok = (Go.Sort.partialInsertionSort lt d a b).2 := ⟨_, rfl⟩
    rw [← hd1] at sd3 p1 p2 s4
    rw [← hok] at c1 p2
    cases ok with
    | true =>
      simp [-beq_iff_eq, -beq_eq_false_iff_ne, k80t6, z0, zc, z1, z2, z8, z9, z12, hv', ← hH1, c1]
      refine L.fin p1 (p2 rfl) ?_
      repeat' first | exact sd3 | refine SD.bump ?_ _
    | false =>
      simp [-beq_iff_eq, -beq_eq_false_iff_ne, k80t6, z0, zc, z1, z2, z8, z9, z12, hv', ← hH1, c1]
      refine t7_run hN ih (z := _) (wb := true) (wp := true) ⟨⟨by simp [z0], by simp [zc]⟩, by simp [z1], by simp [z2], by simp [z3], by simp [z8], by simp [z9]⟩ hl (by simp [z10]) (by simp [z11]) ?_ (L.perm p1) h12 hk hK hp1 hp2 hn hn'
      repeat' first | exact sd3 | refine SD.bump ?_ _
set_option maxHeartbeats 16000000 in
theorem t5_run {A B kb N K n0 : Nat} (hN : N ≤ 10000000) {cap : Option Nat} (ih : SrtOK kb N cap K n0) {d0 : Array EE} {h0 : Heap} {d : Array EE} {h : Heap} {z : Env 148} {a b lim p k hint : Nat} {wb wp : Bool} (P : PdV z kb N cap a b lim wb wp) (hl : lim ≤ 1000) (z10 : z.v 12 = D.int ((b - a : Nat) : Int)) (z11 : z.v 13 = D.int p) (z12 : z.v 14 = D.int hint) (sd : SD kb d h0 h) (L : Lft A B N d0 a b d) (h12 : 12 < b - a) (hk : b - a ≤ k) (hK : b - a ≤ K) (hp1 : a ≤ p) (hp2 : p < b) {n : Nat} (hn : n0 ≤ n) (hn' : 2 * N + 100 ≤ n) :
    Res (blockK 1 (k80t5.ev ⟨pg, 148, none⟩ (rc pg n) ⟨z.l, h, []⟩)) (Rnd (PdI A B kb N cap d0 h0) (PdF A B kb N d0 h0) k) := by
  obtain ⟨⟨z0, zc⟩, z1, z2, z3, z8, z9⟩ := P
  have hbN := L.bN
  have hsz := L.sz
  cases hv : ((hint : Int) == 2) with
  | false =>
    simp [-beq_iff_eq, -beq_eq_false_iff_ne, k80t5, z12, hv]
    refine t6_run hN ih (z := _) (wb := wb) (wp := wp) (hint := hint) ⟨⟨by simp [z0], by simp [zc]⟩, by simp [z1], by simp [z2], by simp [z3], by simp [z8], by simp [z9]⟩ hl (by simp [z10]) (by simp [z11]) (by simp [z12]) ?_ L h12 hk hK hp1 hp2 hn hn'
    repeat' first | exact sd | refine SD.bump ?_ _
  | true =>
    obtain ⟨H1, hH1⟩ : ∃ H, H = (h.bump 148).bump 148 := ⟨_, rfl⟩
    have sd1 : SD kb d h0 H1 := hH1 ▸ (sd.bump 148).bump 148
    obtain ⟨h1, r1, sd2, s4⟩ := rev_sh sd1.g (by have := sd1.n; have := sd1.k; omega) sd1.fr hsz hN cap (a := a) (b := b) (by omega) hbN (n := n) (by omega)
    have c1 := call_sh (pg := pg) (f := 111) rfl r1
    have sd3 := sd1.trans sd2
    have p1 := Go.Sort.reverseRange_holds d a b (by omega) (by rw [hsz]; exact hbN)
    obtain ⟨d1, hd1⟩ : ∃ d1, d1 = Go.Sort.reverseRange d a b := ⟨_, rfl⟩
    rw [← hd1] at sd3 p1
    obtain ⟨b1, hb1⟩ : ∃ b1, b1 = b - 1 := ⟨_, rfl⟩
    obtain ⟨pa, hpa⟩ : ∃ pa, pa = p - a := ⟨_, rfl⟩
    obtain ⟨p', hp'⟩ : ∃ p', p' = b1 - pa := ⟨_, rfl⟩
    have w1 : IntKind.i64.wrap ((b : Int) - 1) = (b1 : Int) := wn (by omega) (by omega)
    have w2 : IntKind.i64.wrap ((p : Int) - (a : Int)) = (pa : Int) := wn (by omega) (by omega)
    have w3 : IntKind.i64.wrap ((b1 : Int) - (pa : Int)) = (p' : Int) := wn (by omega) (by omega)
    simp [-beq_iff_eq, -beq_eq_false_iff_ne, k80t5, z0, zc, z1, z2, z11, z12, hv, w1, w2, w3, ← hH1, c1]
    refine t6_run hN ih (z := _) (wb := wb) (wp := wp) (hint := 1) ⟨⟨by simp [z0], by simp [zc]⟩, by simp [z1], by simp [z2], by simp [z3], by simp [z8], by simp [z9]⟩ hl (by simp [z10]) (by simp) (by simp) ?_ (L.perm p1) h12 hk hK (p := p') (by omega) (by omega) hn hn'
    repeat' first | exact sd3 | refine SD.bump ?_ _
set_option maxHeartbeats 16000000 in
theorem t4_run {A B kb N K n0 : Nat} (hN : N ≤ 10000000) {cap : Option Nat} (ih : SrtOK kb N cap K n0) {d0 : Array EE} {h0 : Heap} {d : Array EE} {h : Heap} {z : Env 148} {a b lim k : Nat} {wb wp : Bool} (P : PdV z kb N cap a b lim wb wp) (hl : lim ≤ 1000) (z10 : z.v 12 = D.int ((b - a : Nat) : Int)) (sd : SD kb d h0 h) (L : Lft A B N d0 a b d) (h12 : 12 < b - a) (hk : b - a ≤ k) (hK : b - a ≤ K) {n : Nat} (hn : n0 ≤ n) (hn' : 2 * N + 100 ≤ n) :
    Res (blockK 1 (k80t4.ev ⟨pg, 148, none⟩ (rc pg n) ⟨z.l, h, []⟩)) (Rnd (PdI A B kb N cap d0 h0) (PdF A B kb N d0 h0) k) := by
  obtain ⟨⟨z0, zc⟩, z1, z2, z3, z8, z9⟩ := P
  have hbN := L.bN
  have hsz := L.sz
  obtain ⟨H1, hH1⟩ : ∃ H, H = h.bump 148 := ⟨_, rfl⟩
  have sd1 : SD kb d h0 H1 := hH1 ▸ sd.bump 148
  obtain ⟨h1, p, hint, r1, sd2, q1, q2⟩ := piv_sh sd1.g (by have := sd1.n; have := sd1.k; omega) sd1.fr hsz hN cap (a := a) (b := b) (by omega) hbN (n := n) (by omega)
  have c1 := call_sh (pg := pg) (f := 110) rfl r1
  have sd3 := sd1.trans sd2
  simp [k80t4, z0, zc, z1, z2, ← hH1, c1]
  refine t5_run hN ih (z := _) (wb := wb) (wp := wp) (hint := hint) ⟨⟨by simp [z0], by simp [zc]⟩, by simp [z1], by simp [z2], by simp [z3], by simp [z8], by simp [z9]⟩ hl (by simp [z10]) (by simp) (by simp) ?_ L h12 hk hK q1 q2 hn hn'
  repeat' first | exact sd3 | refine SD.bump ?_ _
set_option maxHeartbeats 16000000 in
theorem t3_run {A B kb N K n0 : Nat} (hN : N ≤ 10000000) {cap : Option Nat} (ih : SrtOK kb N cap K n0) {d0 : Array EE} {h0 : Heap} {d : Array EE} {h : Heap} {z : Env 148} {a b lim k : Nat} {wb wp : Bool} (P : PdV z kb N cap a b lim wb wp) (hl : lim ≤ 1000) (hl0 : lim ≠ 0) (z10 : z.v 12 = D.int ((b - a : Nat) : Int)) (sd : SD kb d h0 h) (L : Lft A B N d0 a b d) (h12 : 12 < b - a) (hk : b - a ≤ k) (hK : b - a ≤ K) {n : Nat} (hn : n0 ≤ n) (hn' : 2 * N + 100 ≤ n) :
    Res (blockK 1 (k80t3.ev ⟨pg, 148, none⟩ (rc pg n) ⟨z.l, h, []⟩)) (Rnd (PdI A B kb N cap d0 h0) (PdF A B kb N d0 h0) k) := by
  obtain ⟨⟨z0, zc⟩, z1, z2, z3, z8, z9⟩ := P
  have hbN := L.bN
  have hsz := L.sz
  cases wb with
  | true =>
    simp [k80t3, z8]
    refine t4_run hN ih (z := _) (wb := true) (wp := wp) ⟨⟨by simp [z0], by simp [zc]⟩, by simp [z1], by simp [z2], by simp [z3], by simp [z8], by simp [z9]⟩ hl (by simp [z10]) ?_ L h12 hk hK hn hn'
    repeat' first | exact sd | refine SD.bump ?_ _
  | false =>
    obtain ⟨H1, hH1⟩ : ∃ H, H = (h.bump 148).bump 148 := ⟨_, rfl⟩
    have sd1 : SD kb d h0 H1 := hH1 ▸ (sd.bump 148).bump 148
    obtain ⟨h1, d1, r1, sd2, s1, p1⟩ := brk_sh sd1.g (by have := sd1.n; have := sd1.k; omega) sd1.fr hsz hN cap (a := a) (b := b) (by omega) hbN (n := n) (by omega)
    have c1 := call_sh (pg := pg) (f := 109) rfl r1
    have sd3 := sd1.trans sd2
    obtain ⟨l1, hl1⟩ : ∃ l1, l1 = lim - 1 := ⟨_, rfl⟩
    have w1 : IntKind.i64.wrap ((lim : Int) - 1) = (l1 : Int) := wn (by omega) (by omega)
    simp [k80t3, z0, zc, z1, z2, z3, z8, w1, ← hH1, c1]
    refine t4_run hN ih (z := _) (wb := false) (wp := wp) (lim := l1) ⟨⟨by simp [z0], by simp [zc]⟩, by simp [z1], by simp [z2], by simp, by simp [z8], by simp [z9]⟩ (by omega) (by simp [z10]) ?_ (L.perm p1) h12 hk hK hn hn'
    repeat' first | exact sd3 | refine SD.bump ?_ _
end Go.Proofs.YtlddgfkdicgbeaaGreatDoor
/- The library's sort, whole. -/
namespace Go.Proofs.YtlddgfkdicgbeaaGreatDoor
open Go Go.Em
open Go.Sort (PermIn SortedIn Below)
set_option maxRecDepth 100000
set_option maxHeartbeats 16000000 in
theorem t2_run {A B kb N K n0 : Nat} (hN : N ≤ 10000000) {cap : Option Nat} (ih : SrtOK kb N cap K n0) {d0 : Array EE} {h0 : Heap} {d : Array EE} {h : Heap} {z : Env 148} {a b lim k : Nat} {wb wp : Bool} (P : PdV z kb N cap a b lim wb wp) (hl : lim ≤ 1000) (z10 : z.v 12 = D.int ((b - a : Nat) : Int)) (sd : SD kb d h0 h) (L : Lft A B N d0 a b d) (h12 : 12 < b - a) (hk : b - a ≤ k) (hK : b - a ≤ K) {n : Nat} (hn : n0 ≤ n) (hn' : 2 * N + 100 ≤ n) :
    Res (blockK 1 (k80t2.ev ⟨pg, 148, none⟩ (rc pg n) ⟨z.l, h, []⟩)) (Rnd (PdI A B kb N cap d0 h0) (PdF A B kb N d0 h0) k) := by
  obtain ⟨⟨z0, zc⟩, z1, z2, z3, z8, z9⟩ := P
  have hbN := L.bN
  have hsz := L.sz
  by_cases h0' : lim = 0
  · subst h0'
    obtain ⟨H1, hH1⟩ : ∃ H, H = (h.bump 148).bump 148 := ⟨_, rfl⟩
    have sd1 : SD kb d h0 H1 := hH1 ▸ (sd.bump 148).bump 148
    obtain ⟨h1, r1, sd2, s4⟩ := heap_sh sd1.g (by have := sd1.n; have := sd1.k; omega) sd1.fr hsz hN cap (a := a) (b := b) (by omega) hbN (n := n) (by omega)
    have c1 := call_sh (pg := pg) (f := 108) rfl r1
    have sd3 := sd1.trans sd2
    obtain ⟨p1, p2⟩ := Go.Sort.heapSort_holds (lt := lt) swo_lt d a b (by omega) (by rw [hsz]; exact hbN)
    simp [k80t2, z0, zc, z1, z2, z3, ← hH1, c1]
    refine L.fin p1 p2 ?_
    repeat' first | exact sd3 | refine SD.bump ?_ _
  · have hv : ((lim : Int) == 0) = false := by simp; omega
    simp [-beq_iff_eq, -beq_eq_false_iff_ne, k80t2, z3, hv]
    refine t3_run hN ih (z := _) (wb := wb) (wp := wp) ⟨⟨by simp [z0], by simp [zc]⟩, by simp [z1], by simp [z2], by simp [z3], by simp [z8], by simp [z9]⟩ hl h0' (by simp [z10]) ?_ L h12 hk hK hn hn'
    repeat' first | exact sd | refine SD.bump ?_ _
set_option maxHeartbeats 16000000 in
theorem pdq_round {A B kb N K n0 : Nat} (hN : N ≤ 10000000) {cap : Option Nat} (ih : SrtOK kb N cap K n0) (d0 : Array EE) (h0 : Heap) : ∀ n, n0 + 2 * N + 100 ≤ n → ∀ k s, k ≤ K ∧ PdI A B kb N cap d0 h0 k s → Res (k80l0.ev ⟨pg, 148, none⟩ (rc pg n) s) (Rnd (fun k s => k ≤ K ∧ PdI A B kb N cap d0 h0 k s) (PdF A B kb N d0 h0) k) := by
  rintro n hn k s ⟨hkK, x, h, d, a, b, lim, wb, wp, rfl, hk, ⟨⟨z0, zc⟩, z1, z2, z3, z8, z9⟩, hl, sd, L⟩
  have hbN := L.bN
  have hab := L.ab
  have hsz := L.sz
  obtain ⟨len, hlen⟩ : ∃ len, len = b - a := ⟨_, rfl⟩
  have w1 : IntKind.i64.wrap ((b : Int) - (a : Int)) = (len : Int) := wn (by omega) (by omega)
  have key : ∀ x s, Rnd (PdI A B kb N cap d0 h0) (PdF A B kb N d0 h0) k x s → Rnd (fun k s => k ≤ K ∧ PdI A B kb N cap d0 h0 k s) (PdF A B kb N d0 h0) k x s := by
    intro x s hr
    cases x with
    | normal =>
      obtain ⟨j, h1, h2⟩ := hr
      exact ⟨j, h1, by omega, h2⟩
    | ret => exact hr
    | exit i => exact hr
    | pan d => exact hr
  rw [k80l0_eq]
  by_cases h12 : len ≤ 12
  · have h12' : (len : Int) ≤ 12 := by omega
    obtain ⟨H1, hH1⟩ : ∃ H, H = ((h.bump 148).bump 148).bump 148 := ⟨_, rfl⟩
    have sd1 : SD kb d h0 H1 := hH1 ▸ ((sd.bump 148).bump 148).bump 148
    obtain ⟨h1, r1, sd2, s4⟩ := insort_sh sd1.g (by have := sd1.n; have := sd1.k; omega) sd1.fr hsz hN cap (a := a) (b := b) hab hbN (n := n) (by omega)
    have c1 := call_sh (pg := pg) (f := 107) rfl r1
    have sd3 := sd1.trans sd2
    obtain ⟨p1, p2⟩ := Go.Sort.insertionSort_holds (lt := lt) swo_lt d a b hab (by rw [hsz]; exact hbN)
    simp [z0, zc, z1, z2, w1, h12', ← hH1, c1]
    refine L.fin p1 p2 ?_
    repeat' first | exact sd3 | refine SD.bump ?_ _
  · have h12' : ¬ (len : Int) ≤ 12 := by omega
    simp [z1, z2, w1, h12']
    refine Res.mono (t2_run hN ih (z := _) (wb := wb) (wp := wp) (d := d) (a := a) (b := b) (lim := lim) (k := k) ⟨⟨by simp [z0], by simp [zc]⟩, by simp [z1], by simp [z2], by simp [z3], by simp [z8], by simp [z9]⟩ hl (by simp [hlen]) ?_ L (by omega) hk (by omega) (by omega) (by omega)) key
    repeat' first | exact sd | refine SD.bump ?_ _
def pF (N : Nat) : Nat → Nat
  | 0 => 0
  | K + 1 => pF N K + 2 * N + 200 + K
set_option maxHeartbeats 16000000 in
theorem srt_ok (kb N : Nat) (hN : N ≤ 10000000) (cap : Option Nat) : ∀ K, SrtOK kb N cap K (pF N K) := by
  intro K
  induction K with
  | zero => intro d h a b lim n _ _ _ _ _ _ h1; omega
  | succ K ih =>
    intro d h a b lim n hg hk hf hd hab hb hK hB hl hn
    have hn' : pF N K + 2 * N + 200 + K ≤ n := hn
    obtain ⟨m, rfl, e⟩ := fn_body (pg := pg) (f := 80) (args := [.slr kb 0 N 3 cap, D.int a, D.int b, D.int lim, cF]) (h := h) (show 0 < n by omega) rfl rfl
    rw [e]
    have sd := SD.refl hg hk hf
    simp [k80, ev_loop]
    have key : ∀ x s, PdF a b kb N d h x s → ∃ h', endH (rc pg m) [] (blockK 0 (some (x, s))) = some (.ret (.tup []), h') ∧ ∃ d', SD kb d' h h' ∧ d'.size = N ∧ PermIn a b d d' ∧ SortedIn lt a b d' := by
      rintro x s ⟨rfl, y, h1, R, rfl, sd1, s1, p1, o1⟩
      simp
      exact ⟨R, sd1, s1, p1, o1⟩
    have := Res.fin2 (id := 0) (R := rc pg m) (rs := []) (r := .ret (.tup [])) (C := fun h' => ∃ d', SD kb d' h h' ∧ d'.size = N ∧ PermIn a b d d' ∧ SortedIn lt a b d')
      (lp_rule (pF N K + 2 * N + 100) (fun k s => k ≤ K ∧ PdI a b kb N cap d h k s) (PdF a b kb N d h) (pdq_round hN ih d h) (b - a) m
        { e := (((Env.ini 148 [.slr kb 0 N 3 cap, D.int a, D.int b, D.int lim, cF]).upd 10 (D.bool true)).upd 11 (D.bool true)).l, h := (h.bump 148).bump 148, df := [] } (by omega)
        ⟨by omega, _, _, d, a, b, lim, true, true, rfl, by omega, ⟨by simp [Env.v_ini], by simp [Env.v_ini], by simp [Env.v_ini], by simp [Env.v_ini], by simp, by simp⟩, hl, (sd.bump 148).bump 148, ⟨hab, hb, hd, hB, fun R h1 h2 => ⟨h1, h2⟩⟩⟩) key
    obtain ⟨h', h1, d', h2, h3, h4, h5⟩ := this
    exact ⟨h', h1, d', h2, h3, h4, h5⟩
theorem pF_le (N : Nat) : ∀ K, pF N K ≤ K * (2 * N + 200 + K)
  | 0 => Nat.zero_le _
  | K + 1 => by
    have h := pF_le N K
    have e : (K + 1) * (2 * N + 200 + (K + 1)) = K * (2 * N + 200 + K) + (2 * N + 200 + K) + (K + 1) := by
      rw [show 2 * N + 200 + (K + 1) = (2 * N + 200 + K) + 1 by omega, Nat.mul_succ, Nat.succ_mul]
    show pF N K + 2 * N + 200 + K ≤ _
    omega
end Go.Proofs.YtlddgfkdicgbeaaGreatDoor
/- The library's SortFunc of structs: what it leaves is sorted, and has the same elements. -/
namespace Go.Proofs.YtlddgfkdicgbeaaGreatDoor
open Go Go.Em
open Go.Sort (PermIn SortedIn Below)
set_option maxRecDepth 100000
set_option maxHeartbeats 8000000 in
theorem len_run0 {n : Nat} (hn : 1 ≤ n) : pureCall (rc pg n) 116 [wordD 0] = some (.ret (D.int 0)) := by
  obtain ⟨m, rfl, e⟩ := body (pg := pg) (f := 116) (args := [wordD 0]) (show 0 < n by omega) rfl rfl
  rw [e]
  have hw := wrap_u8 (a := 0) (by omega)
  have w1 : IntKind.i64.wrap 0 = 0 := by decide
  have w0 : IntKind.u8.wrap 0 = 0 := by decide
  simp [k116, Env.v_ini, w0, w1]
theorem lenw (x : Nat) (hx : x ≤ 10000000) {n : Nat} (hn : 2 ≤ n) : ∃ L : Nat, L ≤ 60 ∧ pureCall (rc pg n) 81 [wordD x] = some (.ret (D.int L)) := by
  by_cases h0 : x = 0
  · subst h0
    obtain ⟨m, rfl, e⟩ := body (pg := pg) (f := 81) (args := [wordD 0]) (show 0 < n by omega) rfl rfl
    rw [e]
    have c := fun h => call_of (h := h) (pg := pg) (f := 116) rfl rfl (len_run0 (n := m) (by omega))
    exact ⟨0, by omega, by simp [k81, Env.v_ini, c]⟩
  · obtain ⟨L, h1, _, h3⟩ := lenw_run x (by omega) hx hn
    exact ⟨L, h1, h3⟩
theorem permIn_all {d d' : Array EE} (h : PermIn 0 d.size d d') : d'.toList.Perm d.toList := by
  obtain ⟨h1, _, h3⟩ := h
  have e1 : d.extract 0 d.size = d := by simp
  have e2 : d'.extract 0 d.size = d' := by rw [← h1]; simp
  rwa [e1, e2] at h3
theorem sorted_all {d' : Array EE} (h : SortedIn lt 0 d'.size d') : d'.toList.Pairwise (fun x y => lt y x = false) := by
  rw [List.pairwise_iff_getElem]
  intro i j hi hj hij
  have hi' : i < d'.size := by simpa using hi
  have hj' : j < d'.size := by simpa using hj
  have := h i j (by omega) hij hj'
  simpa [getElem!_pos d' i hi', getElem!_pos d' j hj'] using this
set_option maxHeartbeats 8000000 in
theorem sort_sh {kb : Nat} {d : Array EE} {h : Heap} (hg : h.get kb = some (.cells 74 (eCs d))) (hk : kb < h.next) (hf : h.Fr) {N : Nat} (hd : d.size = N) (hN : N ≤ 10000000) (cap : Option Nat) {n : Nat} (hn : (N + 1) * (3 * N + 201) + 10 ≤ n) :
    ∃ h', (rc pg n).fn 58 [.slr kb 0 N 3 cap, cF] h = some (.ret (.tup []), h') ∧ ∃ d', SD kb d' h h' ∧ d'.toList.Perm d.toList ∧ d'.toList.Pairwise (fun x y => lt y x = false) := by
  obtain ⟨m, rfl, e⟩ := fn_body (pg := pg) (f := 58) (args := [.slr kb 0 N 3 cap, cF]) (h := h) (show 0 < n by omega) rfl rfl
  rw [e]
  have sd := SD.refl hg hk hf
  obtain ⟨L, hL, hL3⟩ := lenw N hN (n := m) (by omega)
  have c := fun h => call_of (h := h) (pg := pg) (f := 81) rfl rfl hL3
  have w5 : IntKind.u64.wrap (N : Int) = (N : Int) := wrap_u64 (by omega) (by omega)
  obtain ⟨H, hH⟩ : ∃ H, H = (h.bump 14).bump 14 := ⟨_, rfl⟩
  have sdH : SD kb d h H := hH ▸ (sd.bump 14).bump 14
  have hp := pF_le N (N + 1)
  have hpn : pF N (N + 1) ≤ m := by
    have h4 : (N + 1) * (2 * N + 200 + (N + 1)) = (N + 1) * (3 * N + 201) := by congr 1; omega
    rw [h4] at hp
    generalize (N + 1) * (3 * N + 201) = F at *
    omega
  obtain ⟨h', d', r1, sd2, s2, p2, o2⟩ := srt_ok kb N hN cap (N + 1) d H 0 N L m sdH.g (by have := sdH.n; have := sdH.k; omega) sdH.fr hd (by omega) (Nat.le_refl _) (by omega) (.inl rfl) (by omega) hpn
  have cs := call_sh (pg := pg) (f := 80) rfl r1
  have z0 : D.int ((0 : Nat) : Int) = D.int 0 := rfl
  rw [z0] at cs
  have sd3 := sdH.trans sd2
  simp [k58, Env.v_ini, w5, c, ← hH, cs]
  refine ⟨d', ?_, permIn_all (by rw [hd]; exact p2), sorted_all (by rw [s2]; exact o2)⟩
  repeat' first | exact sd3 | refine SD.bump ?_ _
end Go.Proofs.YtlddgfkdicgbeaaGreatDoor
