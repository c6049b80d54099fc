/- The library's sort: the partitions. -/
import Derived.Test.YtmncdmpeeibgmaaGreatDoorQs1
namespace Go.Proofs.YtmncdmpeeibgmaaGreatDoor
open Go Go.Em
set_option maxRecDepth 100000
set_option linter.unusedSectionVars false
variable [Tl]
theorem Res.qc {L : Option (Ex × St)} {i1 i2 : Nat} {E : St → Option (Ex × St)} {P Q : Ex → St → Prop} (h : Res L P) (hk : ∀ x s, P x s → Res (blockK i1 (andThen (blockK i2 (some (x, s))) E)) Q) : Res (blockK i1 (andThen (blockK i2 L) E)) Q := by
  obtain ⟨x, s, rfl, p⟩ := h; exact hk x s p
theorem scan_facts (p q : Int → Bool) (hq : ∀ x, q x = !p x) (d : Array Int) {i j : Nat} (hi : 1 ≤ i) (hij : i ≤ j + 1) : i ≤ Go.Sort.scanUp p d j i ∧ Go.Sort.scanUp p d j i ≤ j + 1 ∧ Go.Sort.scanDown q d (Go.Sort.scanUp p d j i) j ≤ j ∧ Go.Sort.scanUp p d j i ≤ Go.Sort.scanDown q d (Go.Sort.scanUp p d j i) j + 1 ∧ (¬ Go.Sort.scanUp p d j i > Go.Sort.scanDown q d (Go.Sort.scanUp p d j i) j → Go.Sort.scanUp p d j i < Go.Sort.scanDown q d (Go.Sort.scanUp p d j i) j) := by
  obtain ⟨g1, g2, g3, g4, g5, g6, g7⟩ := Go.Sort.round_facts p q hq d (i - 1) (j + 1) i j (by omega) hij (fun t h1 h2 => by omega) (fun t h1 h2 => by omega)
  exact ⟨g1, g2, g3, g4, fun h => (g7 h).2.2⟩
def plI (T : Nat × Array Int) (a kb N : Nat) (cap : Option Nat) (h0 : Heap) (k : Nat) (s : St) : Prop := ∃ (x : Env 168) (h : Heap) (d : Array Int) (i j : Nat), s = ⟨x.l, h, []⟩ ∧ j + 1 ≤ i + k ∧ x.v 0 = .slr kb 0 N 1 cap ∧ x.v 1 = D.int a ∧ x.v 10 = D.int i ∧ x.v 11 = D.int j ∧ a < i ∧ i ≤ j + 1 ∧ j < N ∧ d.size = N ∧ SD kb d h0 h ∧ Go.Sort.partLoop lt a i j d = T
def plQ (T : Nat × Array Int) (a kb N : Nat) (cap : Option Nat) (h0 : Heap) (s : St) : Prop := ∃ (x : Env 168) (h : Heap), s = ⟨x.l, h, []⟩ ∧ x.v 0 = .slr kb 0 N 1 cap ∧ x.v 1 = D.int a ∧ x.v 11 = D.int T.1 ∧ T.1 < N ∧ T.2.size = N ∧ SD kb T.2 h0 h
set_option maxHeartbeats 16000000 in
theorem pl_round (T : Nat × Array Int) (a kb N : Nat) (hN : N ≤ 1000000) (haN : a < N) (cap : Option Nat) (h0 : Heap) : ∀ n, N + 20 ≤ n → ∀ k s, plI T a kb N cap h0 k s → Res (k88l4.ev ⟨pg, 168, none⟩ (rc pg n) s) (Rnd (plI T a kb N cap h0) (fun x s => x = .exit 4 ∧ plQ T a kb N cap h0 s) k) := by
  rintro n hn k s ⟨x, h, d, i, j, rfl, hk, v0, v1, vi, vj, hai, hij, hjN, hd, sd, hT⟩
  obtain ⟨g1, g2, g3, g4, g5⟩ := scan_facts (fun x => lt x d[a]!) (fun x => !lt x d[a]!) (fun _ => rfl) d (show 1 ≤ i by omega) hij
  rw [Go.Sort.partLoop_eq] at hT
  obtain ⟨i2, hi2⟩ : ∃ t, t = Go.Sort.scanUp (fun x => lt x d[a]!) d j i := ⟨_, rfl⟩
  rw [← hi2] at g1 g2 g3 g4 g5 hT
  obtain ⟨j2, hj2⟩ : ∃ t, t = Go.Sort.scanDown (fun x => !lt x d[a]!) d i2 j := ⟨_, rfl⟩
  rw [← hj2] at g3 g4 g5 hT
  simp [k88l4, ev_loop]
  refine Res.qc (lp_rule 2 (pvI i2 d a j kb N x h0) _ (pv_round i2 d a j kb N hN (by omega) hd hjN cap x h0 v0 v1 vj) (j + 1 - i) n _ (by omega) ⟨x, h, i, rfl, by omega, fun _ _ _ => rfl, vi, by omega, sd, hi2.symm⟩) ?_
  rintro x1 s1 ⟨rfl, y, h1, rfl, sm1, yi, sd1⟩
  have y0 := (sm1 0 (by omega) (by omega)).trans v0
  have y1 := (sm1 1 (by omega) (by omega)).trans v1
  have yj := (sm1 11 (by omega) (by omega)).trans vj
  simp [ev_loop]
  refine Res.qc (lp_rule 2 (pwI j2 d a i2 kb N y h0) _ (pw_round j2 d a i2 kb N hN (by omega) hd (by omega) cap y h0 y0 y1 yi) (j + 1 - i2) n _ (by omega) ⟨y, h1, j, rfl, by omega, fun _ _ _ => rfl, yj, by omega, sd1, hj2.symm⟩) ?_
  rintro x2 s2 ⟨rfl, z, h2, rfl, sm2, zj, sd2⟩
  have z0 := (sm2 0 (by omega) (by omega)).trans y0
  have z1 := (sm2 1 (by omega) (by omega)).trans y1
  have zi := (sm2 10 (by omega) (by omega)).trans yi
  have g := sd2.g
  by_cases hc : i2 > j2
  · rw [if_pos hc] at hT
    have hc' : j2 < i2 := hc
    simp [zi, zj, hc']
    exact ⟨_, _, rfl, by simp [z0], by simp [z1], by rw [← hT]; simp [zj], by rw [← hT]; show j2 < N; omega, by rw [← hT]; exact hd, by rw [← hT]; repeat' first | exact sd2 | refine SD.bump ?_ _⟩
  · rw [if_neg hc] at hT
    have hlt2 := g5 hc
    have hc' : ¬ j2 < i2 := hc
    have hiN : i2 < d.size := by omega
    have hjN2 : j2 < d.size := by omega
    obtain ⟨C, C1, C2, va, vb, hC, hl, hl1, hl2, f1, f2, e1, e2, p1, p2, c1, c2, y1', y2'⟩ := swp_facts hiN hjN2
    rw [← hC] at g
    have w1 : IntKind.i64.wrap ((i2 : Int) + 1) = (i2 : Int) + 1 := wrap_i64 (by omega) (by omega)
    have w2 : IntKind.i64.wrap ((j2 : Int) - 1) = ((j2 - 1 : Nat) : Int) := wn (by omega) (by omega)
    have l1 : i2 < N := by omega
    have l2 : j2 < N := by omega
    have l3 : i2 + 1 ≤ N := by omega
    have l4 : j2 + 1 ≤ N := by omega
    simp [z0, zi, zj, hc', w1, w2, D.cells, D.one, g, hl, hl1, hd, e1, e2, p1, p2, l1, l2, l3, l4]
    exact ⟨k - 1, by omega, _, _, _, i2 + 1, j2 - 1, rfl, by omega, by simp [z0], by simp [z1], by simp, by simp, by omega, by omega, by omega, swp_size d i2 j2 hd, by repeat' first | exact sd2 | refine SD.bump ?_ _ | refine SD.two ?_ c1 c2, hT⟩
def qlI (T : Nat × Array Int) (a kb N : Nat) (cap : Option Nat) (h0 : Heap) (k : Nat) (s : St) : Prop := ∃ (x : Env 84) (h : Heap) (d : Array Int) (i j : Nat), s = ⟨x.l, h, []⟩ ∧ j + 1 ≤ i + k ∧ x.v 0 = .slr kb 0 N 1 cap ∧ x.v 1 = D.int a ∧ x.v 9 = D.int i ∧ x.v 10 = D.int j ∧ a < i ∧ i ≤ j + 1 ∧ j < N ∧ d.size = N ∧ SD kb d h0 h ∧ Go.Sort.partEqLoop lt a i j d = T
def qlQ (T : Nat × Array Int) (a kb N : Nat) (cap : Option Nat) (h0 : Heap) (s : St) : Prop := ∃ (x : Env 84) (h : Heap), s = ⟨x.l, h, []⟩ ∧ x.v 0 = .slr kb 0 N 1 cap ∧ x.v 1 = D.int a ∧ x.v 9 = D.int T.1 ∧ T.1 ≤ N ∧ T.2.size = N ∧ SD kb T.2 h0 h
set_option maxHeartbeats 16000000 in
theorem ql_round (T : Nat × Array Int) (a kb N : Nat) (hN : N ≤ 1000000) (haN : a < N) (cap : Option Nat) (h0 : Heap) : ∀ n, N + 20 ≤ n → ∀ k s, qlI T a kb N cap h0 k s → Res (k87l2.ev ⟨pg, 84, none⟩ (rc pg n) s) (Rnd (qlI T a kb N cap h0) (fun x s => x = .exit 0 ∧ qlQ T a kb N cap h0 s) k) := by
  rintro n hn k s ⟨x, h, d, i, j, rfl, hk, v0, v1, vi, vj, hai, hij, hjN, hd, sd, hT⟩
  obtain ⟨g1, g2, g3, g4, g5⟩ := scan_facts (fun x => !lt d[a]! x) (fun x => lt d[a]! x) (fun _ => by simp) d (show 1 ≤ i by omega) hij
  rw [Go.Sort.partEqLoop_eq] at hT
  obtain ⟨i2, hi2⟩ : ∃ t, t = Go.Sort.scanUp (fun x => !lt d[a]! x) d j i := ⟨_, rfl⟩
  rw [← hi2] at g1 g2 g3 g4 g5 hT
  obtain ⟨j2, hj2⟩ : ∃ t, t = Go.Sort.scanDown (fun x => lt d[a]! x) d i2 j := ⟨_, rfl⟩
  rw [← hj2] at g3 g4 g5 hT
  simp [k87l2, ev_loop]
  refine Res.qc (lp_rule 2 (quI i2 d a j kb N x h0) _ (qu_round i2 d a j kb N hN (by omega) hd hjN cap x h0 v0 v1 vj) (j + 1 - i) n _ (by omega) ⟨x, h, i, rfl, by omega, fun _ _ _ => rfl, vi, by omega, sd, hi2.symm⟩) ?_
  rintro x1 s1 ⟨rfl, y, h1, rfl, sm1, yi, sd1⟩
  have y0 := (sm1 0 (by omega) (by omega)).trans v0
  have y1 := (sm1 1 (by omega) (by omega)).trans v1
  have yj := (sm1 10 (by omega) (by omega)).trans vj
  simp [ev_loop]
  refine Res.qc (lp_rule 2 (qdI j2 d a i2 kb N y h0) _ (qd_round j2 d a i2 kb N hN (by omega) hd (by omega) cap y h0 y0 y1 yi) (j + 1 - i2) n _ (by omega) ⟨y, h1, j, rfl, by omega, fun _ _ _ => rfl, yj, by omega, sd1, hj2.symm⟩) ?_
  rintro x2 s2 ⟨rfl, z, h2, rfl, sm2, zj, sd2⟩
  have z0 := (sm2 0 (by omega) (by omega)).trans y0
  have z1 := (sm2 1 (by omega) (by omega)).trans y1
  have zi := (sm2 9 (by omega) (by omega)).trans yi
  have g := sd2.g
  by_cases hc : i2 > j2
  · rw [if_pos hc] at hT
    have hc' : j2 < i2 := hc
    simp [zi, zj, hc']
    exact ⟨_, _, rfl, by simp [z0], by simp [z1], by rw [← hT]; simp [zi], by rw [← hT]; show i2 ≤ N; omega, by rw [← hT]; exact hd, by rw [← hT]; repeat' first | exact sd2 | refine SD.bump ?_ _⟩
  · rw [if_neg hc] at hT
    have hlt2 := g5 hc
    have hc' : ¬ j2 < i2 := hc
    have hiN : i2 < d.size := by omega
    have hjN2 : j2 < d.size := by omega
    obtain ⟨C, C1, C2, va, vb, hC, hl, hl1, hl2, f1, f2, e1, e2, p1, p2, c1, c2, y1', y2'⟩ := swp_facts hiN hjN2
    rw [← hC] at g
    have w1 : IntKind.i64.wrap ((i2 : Int) + 1) = (i2 : Int) + 1 := wrap_i64 (by omega) (by omega)
    have w2 : IntKind.i64.wrap ((j2 : Int) - 1) = ((j2 - 1 : Nat) : Int) := wn (by omega) (by omega)
    have l1 : i2 < N := by omega
    have l2 : j2 < N := by omega
    have l3 : i2 + 1 ≤ N := by omega
    have l4 : j2 + 1 ≤ N := by omega
    simp [z0, zi, zj, hc', w1, w2, D.cells, D.one, g, hl, hl1, hd, e1, e2, p1, p2, l1, l2, l3, l4]
    exact ⟨k - 1, by omega, _, _, _, i2 + 1, j2 - 1, rfl, by omega, by simp [z0], by simp [z1], by simp, by simp, by omega, by omega, by omega, swp_size d i2 j2 hd, by repeat' first | exact sd2 | refine SD.bump ?_ _ | refine SD.two ?_ c1 c2, hT⟩
end Go.Proofs.YtmncdmpeeibgmaaGreatDoor
/- The library's sort: the partitions as functions. -/
namespace Go.Proofs.YtmncdmpeeibgmaaGreatDoor
open Go Go.Em
set_option maxRecDepth 100000
set_option linter.unusedSectionVars false
variable [Tl]
theorem part_eq (d : Array Int) (a b pivot : Nat) {d1 : Array Int} (h1 : d1 = Go.Sort.swp d a pivot) {i2 j2 : Nat} (h2 : i2 = Go.Sort.scanUp (fun x => lt x d1[a]!) d1 (b - 1) (a + 1)) (h3 : j2 = Go.Sort.scanDown (fun x => !lt x d1[a]!) d1 i2 (b - 1)) :
    Go.Sort.partition lt d a b pivot = if i2 > j2 then (j2, true, Go.Sort.swp d1 j2 a) else ((Go.Sort.partLoop lt a (i2 + 1) (j2 - 1) (Go.Sort.swp d1 i2 j2)).1, false, Go.Sort.swp (Go.Sort.partLoop lt a (i2 + 1) (j2 - 1) (Go.Sort.swp d1 i2 j2)).2 (Go.Sort.partLoop lt a (i2 + 1) (j2 - 1) (Go.Sort.swp d1 i2 j2)).1 a) := by
  subst h1 h2 h3; rfl
theorem partE_eq (d : Array Int) (a b pivot : Nat) : Go.Sort.partitionEqual lt d a b pivot = Go.Sort.partEqLoop lt a (a + 1) (b - 1) (Go.Sort.swp d a pivot) := rfl
set_option maxHeartbeats 16000000 in
theorem part_sh {kb : Nat} {d : Array Int} {h : Heap} (hg : h.get kb = some (.cells 3 (dl d))) (hk : kb < h.next) (hf : h.Fr) {N : Nat} (hd : d.size = N) (hN : N ≤ 1000000) (cap : Option Nat) {a b pivot : Nat} (hap : a ≤ pivot) (hpb : pivot < b) (hb : b ≤ N) {n : Nat} (hn : 2 * N + 60 ≤ n) {r : Nat × Bool × Array Int} (hr : Go.Sort.partition lt d a b pivot = r) :
    ∃ h', (rc pg n).fn 88 [.slr kb 0 N 1 cap, D.int a, D.int b, D.int pivot] h = some (.ret (.tup [D.int r.1, D.bool r.2.1]), h') ∧ SD kb r.2.2 h h' ∧ r.2.2.size = N := by
  obtain ⟨m, rfl, e⟩ := fn_body (pg := pg) (f := 88) (args := [.slr kb 0 N 1 cap, D.int a, D.int b, D.int pivot]) (h := h) (show 0 < n by omega) rfl rfl
  rw [e]
  have sd := SD.refl hg hk hf
  have g := sd.g
  have haN : a < d.size := by omega
  have hpN : pivot < d.size := by omega
  obtain ⟨C, C1, C2, va, vb, hC, hl, hl1, hl2, f1, f2, e1, e2, p1, p2, c1, c2, y1', y2'⟩ := swp_facts haN hpN
  rw [← hC] at g
  have l1 : a < N := by omega
  have l2 : pivot < N := by omega
  have l3 : a + 1 ≤ N := by omega
  have l4 : pivot + 1 ≤ N := by omega
  have w1 : IntKind.i64.wrap ((a : Int) + 1) = ((a + 1 : Nat) : Int) := wn (by omega) (by omega)
  have w2 : IntKind.i64.wrap ((b : Int) - 1) = ((b - 1 : Nat) : Int) := wn (by omega) (by omega)
  obtain ⟨d1, hd1⟩ : ∃ d1, d1 = Go.Sort.swp d a pivot := ⟨_, rfl⟩
  have hd1s : d1.size = N := by rw [hd1]; exact swp_size d a pivot hd
  rw [← hd1] at c2
  obtain ⟨i2, hi2⟩ : ∃ t, t = Go.Sort.scanUp (fun x => lt x d1[a]!) d1 (b - 1) (a + 1) := ⟨_, rfl⟩
  obtain ⟨j2, hj2⟩ : ∃ t, t = Go.Sort.scanDown (fun x => !lt x d1[a]!) d1 i2 (b - 1) := ⟨_, rfl⟩
  rw [part_eq d a b pivot hd1 hi2 hj2] at hr
  obtain ⟨g1, g2, g3, g4, g5⟩ := scan_facts (fun x => lt x d1[a]!) (fun x => !lt x d1[a]!) (fun _ => rfl) d1 (i := a + 1) (j := b - 1) (by omega) (by omega)
  rw [← hi2] at g1 g2 g3 g4 g5
  rw [← hj2] at g3 g4 g5
  obtain ⟨a1, ha1⟩ : ∃ a1, a1 = a + 1 := ⟨_, rfl⟩
  obtain ⟨b1, hb1⟩ : ∃ b1, b1 = b - 1 := ⟨_, rfl⟩
  rw [← ha1] at w1 hi2 g1
  rw [← hb1] at w2 hi2 hj2 g2 g3
  simp [k88, Env.v_ini, w1, w2, D.cells, D.one, g, hl, hl1, hd, e1, e2, p1, p2, l1, l2, l3, l4, ev_loop]
  refine Res.fin3 (lp_rule 2 (puI i2 d1 a b1 kb N _ h) _ (pu_round i2 d1 a b1 kb N hN (by omega) hd1s (by omega) cap _ h ?_ ?_ ?_) (b1 + 1 - a1) m _ (by omega) ⟨_, _, a1, rfl, by omega, fun _ _ _ => rfl, by simp, by omega, by repeat' first | exact sd | refine SD.bump ?_ _ | refine SD.two ?_ c1 c2, hi2.symm⟩) ?_
  · simp [Env.v_ini]
  · simp [Env.v_ini]
  · simp
  rintro x1 s1 ⟨rfl, y, h1, rfl, sm1, yi, sd1⟩
  have y0 := sm1 0 (by omega) (by omega)
  have y1 := sm1 1 (by omega) (by omega)
  have yj := sm1 11 (by omega) (by omega)
  simp [Env.v_ini] at y0 y1 yj
  simp [ev_loop]
  refine Res.fin3 (lp_rule 2 (pdI j2 d1 a i2 kb N y h) _ (pd_round j2 d1 a i2 kb N hN (by omega) hd1s (by omega) cap y h y0 y1 yi) (b1 + 1 - i2) m _ (by omega) ⟨y, h1, b1, rfl, by omega, fun _ _ _ => rfl, yj, by omega, sd1, hj2.symm⟩) ?_
  rintro x2 s2 ⟨rfl, z, h2, rfl, sm2, zj, sd2⟩
  have z0 := (sm2 0 (by omega) (by omega)).trans y0
  have z1 := (sm2 1 (by omega) (by omega)).trans y1
  have zi := (sm2 10 (by omega) (by omega)).trans yi
  have g2' := sd2.g
  have hj2N : j2 < d1.size := by omega
  have haN1 : a < d1.size := by omega
  have m1 : j2 < N := by omega
  have m2 : j2 + 1 ≤ N := by omega
  by_cases hc : i2 > j2
  · rw [if_pos hc] at hr
    have hc' : j2 < i2 := hc
    obtain ⟨C, C1, C2, va, vb, hC, hl, hl1, hl2, f1, f2, e1, e2, p1, p2, c1, c2, y1', y2'⟩ := swp_facts hj2N haN1
    rw [← hC] at g2'
    simp [z0, z1, zi, zj, hc', D.cells, D.one, g2', hl, hl1, hd1s, e1, e2, p1, p2, l1, l3, m1, m2]
    rw [← hr]
    refine ⟨_, ⟨by simp, rfl⟩, ?_, swp_size d1 j2 a hd1s⟩
    repeat' first | exact sd2 | refine SD.bump ?_ _ | refine SD.two ?_ c1 c2
  · rw [if_neg hc] at hr
    have hlt2 := g5 hc
    have hc' : ¬ j2 < i2 := hc
    have hi2N : i2 < d1.size := by omega
    have m3 : i2 < N := by omega
    have m4 : i2 + 1 ≤ N := by omega
    have w3 : IntKind.i64.wrap ((i2 : Int) + 1) = ((i2 + 1 : Nat) : Int) := wn (by omega) (by omega)
    have w4 : IntKind.i64.wrap ((j2 : Int) - 1) = ((j2 - 1 : Nat) : Int) := wn (by omega) (by omega)
    obtain ⟨i3, hi3⟩ : ∃ i3, i3 = i2 + 1 := ⟨_, rfl⟩
    obtain ⟨j3, hj3⟩ : ∃ j3, j3 = j2 - 1 := ⟨_, rfl⟩
    rw [← hi3] at w3 hr
    rw [← hj3] at w4 hr
    obtain ⟨C, C1, C2, va, vb, hC, hl, hl1, hl2, f1, f2, e1, e2, p1, p2, c1, c2, y1', y2'⟩ := swp_facts hi2N hj2N
    rw [← hC] at g2'
    obtain ⟨T, hT⟩ : ∃ T, Go.Sort.partLoop lt a i3 j3 (Go.Sort.swp d1 i2 j2) = T := ⟨_, rfl⟩
    rw [hT] at hr
    simp [z0, zi, zj, hc', w3, w4, D.cells, D.one, g2', hl, hl1, hd1s, e1, e2, p1, p2, m1, m2, m3, m4, ev_loop]
    refine Res.fin3 (lp_rule (N + 20) (plI T a kb N cap h) _ (pl_round T a kb N hN (by omega) cap h) (j3 + 1 - i3) m _ (by omega) ⟨_, _, _, i3, j3, rfl, by omega, by simp [z0], by simp [z1], by simp, by simp, by omega, by omega, by omega, swp_size d1 i2 j2 hd1s, by repeat' first | exact sd2 | refine SD.bump ?_ _ | refine SD.two ?_ c1 c2, hT⟩) ?_
    rintro x3 s3 ⟨rfl, u, h3, rfl, u0, u1, uj, hTN, hTs, sd3⟩
    have g3' := sd3.g
    obtain ⟨j4, hj4⟩ : ∃ j4, T.1 = j4 := ⟨_, rfl⟩
    rw [hj4] at uj hTN hr
    have hj4N : j4 < T.2.size := by omega
    have haN4 : a < T.2.size := by omega
    have m5 : j4 + 1 ≤ N := by omega
    obtain ⟨C, C1, C2, va, vb, hC, hl, hl1, hl2, f1, f2, e1, e2, p1, p2, c1, c2, y1', y2'⟩ := swp_facts hj4N haN4
    rw [← hC] at g3'
    simp [u0, u1, uj, D.cells, D.one, g3', hl, hl1, hTs, e1, e2, p1, p2, l1, l3, hTN, m5]
    rw [← hr]
    refine ⟨_, ⟨by simp, rfl⟩, ?_, swp_size T.2 j4 a hTs⟩
    repeat' first | exact sd3 | refine SD.bump ?_ _ | refine SD.two ?_ c1 c2
set_option maxHeartbeats 16000000 in
theorem partE_sh {kb : Nat} {d : Array Int} {h : Heap} (hg : h.get kb = some (.cells 3 (dl d))) (hk : kb < h.next) (hf : h.Fr) {N : Nat} (hd : d.size = N) (hN : N ≤ 1000000) (cap : Option Nat) {a b pivot : Nat} (hap : a ≤ pivot) (hpb : pivot < b) (hb : b ≤ N) {n : Nat} (hn : 2 * N + 60 ≤ n) {r : Nat × Array Int} (hr : Go.Sort.partitionEqual lt d a b pivot = r) :
    ∃ h', (rc pg n).fn 87 [.slr kb 0 N 1 cap, D.int a, D.int b, D.int pivot] h = some (.ret (D.int r.1), h') ∧ SD kb r.2 h h' ∧ r.2.size = N := by
  obtain ⟨m, rfl, e⟩ := fn_body (pg := pg) (f := 87) (args := [.slr kb 0 N 1 cap, D.int a, D.int b, D.int pivot]) (h := h) (show 0 < n by omega) rfl rfl
  rw [e]
  have sd := SD.refl hg hk hf
  have g := sd.g
  have haN : a < d.size := by omega
  have hpN : pivot < d.size := by omega
  obtain ⟨C, C1, C2, va, vb, hC, hl, hl1, hl2, f1, f2, e1, e2, p1, p2, c1, c2, y1', y2'⟩ := swp_facts haN hpN
  rw [← hC] at g
  have l1 : a < N := by omega
  have l2 : pivot < N := by omega
  have l3 : a + 1 ≤ N := by omega
  have l4 : pivot + 1 ≤ N := by omega
  have w1 : IntKind.i64.wrap ((a : Int) + 1) = ((a + 1 : Nat) : Int) := wn (by omega) (by omega)
  have w2 : IntKind.i64.wrap ((b : Int) - 1) = ((b - 1 : Nat) : Int) := wn (by omega) (by omega)
  rw [partE_eq] at hr
  obtain ⟨a1, ha1⟩ : ∃ a1, a1 = a + 1 := ⟨_, rfl⟩
  obtain ⟨b1, hb1⟩ : ∃ b1, b1 = b - 1 := ⟨_, rfl⟩
  rw [← ha1] at w1 hr
  rw [← hb1] at w2 hr
  simp [k87, Env.v_ini, w1, w2, D.cells, D.one, g, hl, hl1, hd, e1, e2, p1, p2, l1, l2, l3, l4, ev_loop]
  refine Res.fin3 (lp_rule (N + 20) (qlI r a kb N cap h) _ (ql_round r a kb N hN (by omega) cap h) (b1 + 1 - a1) m _ (by omega) ⟨_, _, _, a1, b1, rfl, by omega, by simp [Env.v_ini], by simp [Env.v_ini], by simp, by simp, by omega, by omega, by omega, swp_size d a pivot hd, by repeat' first | exact sd | refine SD.bump ?_ _ | refine SD.two ?_ c1 c2, hr⟩) ?_
  rintro x3 s3 ⟨rfl, u, h3, rfl, u0, u1, ui, hTN, hTs, sd3⟩
  simp [ui]
  exact ⟨by repeat' first | exact sd3 | refine SD.bump ?_ _, hTs⟩
end Go.Proofs.YtmncdmpeeibgmaaGreatDoor
/- The library's sort: the partial insertion sort's inner loops. -/
namespace Go.Proofs.YtmncdmpeeibgmaaGreatDoor
open Go Go.Em
set_option maxRecDepth 100000
set_option linter.unusedSectionVars false
variable [Tl]
theorem ss_go {d : Array Int} {b i : Nat} (h : i < b) (hp : lt d[i]! d[i - 1]! = false) : Go.Sort.scanSorted lt d b i = Go.Sort.scanSorted lt d b (i + 1) := by
  rw [Go.Sort.scanSorted, if_pos (by simp [h, hp])]
theorem ss_no {d : Array Int} {b i : Nat} (h : i < b → lt d[i]! d[i - 1]! = true) : Go.Sort.scanSorted lt d b i = i := by
  rw [Go.Sort.scanSorted, if_neg (by simp; intro a; simpa using h a)]
theorem ss_le {d : Array Int} {b : Nat} : ∀ (k i : Nat), b ≤ i + k → i ≤ b → i ≤ Go.Sort.scanSorted lt d b i ∧ Go.Sort.scanSorted lt d b i ≤ b := by
  intro k
  induction k with
  | zero => intro i h1 h2; rw [ss_no (fun h => by omega)]; omega
  | succ k ih =>
    intro i h1 h2
    by_cases h : i < b
    · cases hp : lt d[i]! d[i - 1]! with
      | true => rw [ss_no (fun _ => hp)]; omega
      | false => rw [ss_go h hp]; have := ih (i + 1) (by omega) (by omega); omega
    · rw [ss_no (fun h' => by omega)]; omega
theorem sdn_eq (j : Nat) (d : Array Int) : Go.Sort.shiftDown lt (j + 1) d = if (!lt d[j + 1]! d[j]!) = true then d else Go.Sort.shiftDown lt j (Go.Sort.swp d (j + 1) j) := rfl
theorem sup_lt {b j : Nat} {d : Array Int} (h : j < b) : Go.Sort.shiftUp lt b j d = if (!lt d[j]! d[j - 1]!) = true then d else Go.Sort.shiftUp lt b (j + 1) (Go.Sort.swp d j (j - 1)) := by
  rw [Go.Sort.shiftUp, if_pos h]
theorem sup_ge {b j : Nat} {d : Array Int} (h : ¬ j < b) : Go.Sort.shiftUp lt b j d = d := by
  rw [Go.Sort.shiftUp, if_neg h]
/-! ### The scan of what is sorted -/
def ssI (T : Nat) (d : Array Int) (b kb N : Nat) (x0 : Env 133) (h0 : Heap) (k : Nat) (s : St) : Prop := ∃ (x : Env 133) (h : Heap) (t : Nat), s = ⟨x.l, h, []⟩ ∧ b ≤ t + k ∧ (∀ q, q < 11 → q ≠ 7 → x.v q = x0.v q) ∧ x.v 7 = D.int t ∧ 1 ≤ t ∧ t ≤ b ∧ SD kb d h0 h ∧ Go.Sort.scanSorted lt d b t = T
def ssQ (T : Nat) (d : Array Int) (kb : Nat) (x0 : Env 133) (h0 : Heap) (x : Ex) (s : St) : Prop := x = .exit 2 ∧ ∃ (x : Env 133) (h : Heap), s = ⟨x.l, h, []⟩ ∧ (∀ q, q < 11 → q ≠ 7 → x.v q = x0.v q) ∧ x.v 7 = D.int T ∧ SD kb d h0 h
set_option maxHeartbeats 8000000 in
theorem qss_round (T : Nat) (d : Array Int) (b kb N : Nat) (hN : N ≤ 1000000) (hd : d.size = N) (hb : b ≤ N) (cap : Option Nat) (x0 : Env 133) (h0 : Heap) (z0 : x0.v 0 = .slr kb 0 N 1 cap) (z2 : x0.v 2 = D.int b) : ∀ n, 2 ≤ n → ∀ k s, ssI T d b kb N x0 h0 k s → Res (k85l0.ev ⟨pg, 133, none⟩ (rc pg n) s) (Rnd (ssI T d b kb N x0 h0) (ssQ T d kb x0 h0) k) := by
  rintro n hn k s ⟨x, h, t, rfl, hk, sm, vt, ht1, htb, sd, hT⟩
  have g := sd.g
  have v0 := (sm 0 (by omega) (by omega)).trans z0
  have v2 := (sm 2 (by omega) (by omega)).trans z2
  have s117 : pg.sh 86 = false := rfl
  have ne : ∀ {q : Nat}, q < 11 → ∀ t, 11 ≤ t → (t = q) = False := fun hq t ht => by simp; omega
  by_cases hc : t < b
  · obtain ⟨u, hu⟩ : ∃ u, u = t - 1 := ⟨_, rfl⟩
    have htS : t < d.size := by omega
    have huS : u < d.size := by omega
    have l1 : t < N := by omega
    have l2 : t + 1 ≤ N := by omega
    have l3 : u < N := by omega
    have l4 : u + 1 ≤ N := by omega
    have w1 : IntKind.i64.wrap ((t : Int) + 1) = (t : Int) + 1 := wrap_i64 (by omega) (by omega)
    have w2 : IntKind.i64.wrap ((t : Int) - 1) = (u : Int) := wn (by omega) (by omega)
    obtain ⟨C, hC⟩ : ∃ C, C = dl d := ⟨_, rfl⟩
    have hl := dl_le hC
    obtain ⟨va, f1, e1, y1⟩ := get_fact htS hC
    obtain ⟨vb, f2, e2, y2⟩ := get_fact huS hC
    rw [← hC] at g
    have r := lss_run va vb (n := n) hn
    cases hlt : Go.Sort.ltInt va vb with
    | true =>
      rw [hlt] at r
      rw [ss_no (fun _ => by rw [← hu, y1, y2]; exact hlt)] at hT
      subst hT
      simp [k85l0, v0, v2, vt, hc, w2, g, hl, hd, e1, e2, l1, l2, l3, l4, dcore_f, s117, r]
      exact ⟨rfl, _, _, rfl, fun q hq hq' => by simp [ne hq, sm q hq hq'], by simp [vt], by repeat' first | exact sd | refine SD.bump ?_ _⟩
    | false =>
      rw [hlt] at r
      rw [ss_go hc (by rw [← hu, y1, y2]; exact hlt)] at hT
      simp [k85l0, v0, v2, vt, hc, w1, w2, g, hl, hd, e1, e2, l1, l2, l3, l4, dcore_f, s117, r]
      exact ⟨k - 1, by omega, _, _, t + 1, rfl, by omega, fun q hq hq' => by simp [ne hq, Ne.symm hq', sm q hq hq'], by simp, by omega, by omega, by repeat' first | exact sd | refine SD.bump ?_ _, hT⟩
  · rw [ss_no (fun h => absurd h hc)] at hT
    subst hT
    simp [k85l0, v2, vt, hc, dcore_f, s117]
    exact ⟨rfl, _, _, rfl, fun q hq hq' => by simp [ne hq, sm q hq hq'], by simp [vt], by repeat' first | exact sd | refine SD.bump ?_ _⟩
/-! ### The shifts -/
def shI (v e : Nat) (P : Nat → Array Int → Array Int) (R : Nat → Nat → Prop) (T : Array Int) (kb N : Nat) (x0 : Env 133) (h0 : Heap) (k : Nat) (s : St) : Prop := ∃ (x : Env 133) (h : Heap) (d : Array Int) (t : Nat), s = ⟨x.l, h, []⟩ ∧ R t k ∧ (∀ q, q < 11 → q ≠ v → x.v q = x0.v q) ∧ x.v v = D.int t ∧ d.size = N ∧ SD kb d h0 h ∧ P t d = T
def shQ (v e : Nat) (T : Array Int) (kb N : Nat) (x0 : Env 133) (h0 : Heap) (x : Ex) (s : St) : Prop := x = .exit e ∧ ∃ (x : Env 133) (h : Heap), s = ⟨x.l, h, []⟩ ∧ (∀ q, q < 11 → q ≠ v → x.v q = x0.v q) ∧ T.size = N ∧ SD kb T h0 h
set_option maxHeartbeats 8000000 in
theorem sdn_round (T : Array Int) (kb N : Nat) (hN : N ≤ 1000000) (cap : Option Nat) (x0 : Env 133) (h0 : Heap) (z0 : x0.v 0 = .slr kb 0 N 1 cap) : ∀ n, 2 ≤ n → ∀ k s, shI 9 4 (Go.Sort.shiftDown lt) (fun t k => t = k ∧ t < N) T kb N x0 h0 k s → Res (k85l1.ev ⟨pg, 133, none⟩ (rc pg n) s) (Rnd (shI 9 4 (Go.Sort.shiftDown lt) (fun t k => t = k ∧ t < N) T kb N x0 h0) (shQ 9 4 T kb N x0 h0) k) := by
  rintro n hn k s ⟨x, h, d, t, rfl, ⟨rfl, htN⟩, sm, vt, hd, sd, hT⟩
  have g := sd.g
  have v0 := (sm 0 (by omega) (by omega)).trans z0
  have s117 : pg.sh 86 = false := rfl
  have ne : ∀ {q : Nat}, q < 11 → ∀ t, 11 ≤ t → (t = q) = False := fun hq t ht => by simp; omega
  cases t with
  | zero =>
    subst hT
    simp [k85l1, vt]
    exact ⟨rfl, _, _, rfl, fun q hq hq' => by simp [ne hq, sm q hq hq'], hd, by show SD kb d h0 _; repeat' first | exact sd | refine SD.bump ?_ _⟩
  | succ u =>
    obtain ⟨t, ht⟩ : ∃ t, t = u + 1 := ⟨_, rfl⟩
    rw [sdn_eq, ← ht] at hT
    rw [← ht] at vt htN ⊢
    have hc : (1 : Int) ≤ (t : Int) := by omega
    have hc' : 1 ≤ t := by omega
    have htS : t < d.size := by omega
    have huS : u < d.size := by omega
    have l2 : t + 1 ≤ N := by omega
    have l3 : u < N := by omega
    have l4 : u + 1 ≤ N := by omega
    have w2 : IntKind.i64.wrap ((t : Int) - 1) = (u : Int) := wn (by omega) (by omega)
    obtain ⟨C, C1, C2, va, vb, hC, hl, hl1, hl2, f1, f2, e1, e2, p1, p2, c1, c2, y1, y2⟩ := swp_facts htS huS
    rw [← hC] at g
    rw [y1, y2] at hT
    have r := lss_run va vb (n := n) hn
    cases hlt : Go.Sort.ltInt va vb with
    | true =>
      rw [hlt] at r
      rw [if_neg (by simp [lt, hlt])] at hT
      simp [k85l1, v0, vt, hc, w2, D.cells, D.one, g, hl, hl1, hd, e1, e2, p1, p2, htN, l2, l3, l4, dcore_f, s117, r]
      exact ⟨u, by omega, _, _, _, u, rfl, ⟨rfl, by omega⟩, fun q hq hq' => by simp [ne hq, Ne.symm hq', sm q hq hq'], by simp, swp_size d t u hd, by repeat' first | exact sd | refine SD.bump ?_ _ | refine SD.two ?_ c1 c2, hT⟩
    | false =>
      rw [hlt] at r
      rw [if_pos (by simp [lt, hlt])] at hT
      subst hT
      simp [k85l1, v0, vt, hc, w2, g, hl, hd, e1, e2, htN, l2, l3, l4, dcore_f, s117, r]
      exact ⟨rfl, _, _, rfl, fun q hq hq' => by simp [ne hq, sm q hq hq'], hd, by repeat' first | exact sd | refine SD.bump ?_ _⟩
set_option maxHeartbeats 8000000 in
theorem sup_round (T : Array Int) (b kb N : Nat) (hN : N ≤ 1000000) (hb : b ≤ N) (cap : Option Nat) (x0 : Env 133) (h0 : Heap) (z0 : x0.v 0 = .slr kb 0 N 1 cap) (z2 : x0.v 2 = D.int b) : ∀ n, 2 ≤ n → ∀ k s, shI 10 6 (Go.Sort.shiftUp lt b) (fun t k => b ≤ t + k ∧ 1 ≤ t ∧ t ≤ b) T kb N x0 h0 k s → Res (k85l2.ev ⟨pg, 133, none⟩ (rc pg n) s) (Rnd (shI 10 6 (Go.Sort.shiftUp lt b) (fun t k => b ≤ t + k ∧ 1 ≤ t ∧ t ≤ b) T kb N x0 h0) (shQ 10 6 T kb N x0 h0) k) := by
  rintro n hn k s ⟨x, h, d, t, rfl, ⟨hk, ht1, htb⟩, sm, vt, hd, sd, hT⟩
  have g := sd.g
  have v0 := (sm 0 (by omega) (by omega)).trans z0
  have v2 := (sm 2 (by omega) (by omega)).trans z2
  have s117 : pg.sh 86 = false := rfl
  have ne : ∀ {q : Nat}, q < 11 → ∀ t, 11 ≤ t → (t = q) = False := fun hq t ht => by simp; omega
  by_cases hc : t < b
  · obtain ⟨u, hu⟩ : ∃ u, u = t - 1 := ⟨_, rfl⟩
    rw [sup_lt hc, ← hu] at hT
    have htS : t < d.size := by omega
    have huS : u < d.size := by omega
    have l1 : t < N := by omega
    have l2 : t + 1 ≤ N := by omega
    have l3 : u < N := by omega
    have l4 : u + 1 ≤ N := by omega
    have w1 : IntKind.i64.wrap ((t : Int) + 1) = (t : Int) + 1 := wrap_i64 (by omega) (by omega)
    have w2 : IntKind.i64.wrap ((t : Int) - 1) = (u : Int) := wn (by omega) (by omega)
    obtain ⟨C, C1, C2, va, vb, hC, hl, hl1, hl2, f1, f2, e1, e2, p1, p2, c1, c2, y1, y2⟩ := swp_facts htS huS
    rw [← hC] at g
    rw [y1, y2] at hT
    have r := lss_run va vb (n := n) hn
    cases hlt : Go.Sort.ltInt va vb with
    | true =>
      rw [hlt] at r
      rw [if_neg (by simp [lt, hlt])] at hT
      simp [k85l2, v0, v2, vt, hc, w1, w2, D.cells, D.one, g, hl, hl1, hd, e1, e2, p1, p2, l1, l2, l3, l4, dcore_f, s117, r]
      exact ⟨k - 1, by omega, _, _, _, t + 1, rfl, ⟨by omega, by omega, by omega⟩, fun q hq hq' => by simp [ne hq, Ne.symm hq', sm q hq hq'], by simp, swp_size d t u hd, by repeat' first | exact sd | refine SD.bump ?_ _ | refine SD.two ?_ c1 c2, hT⟩
    | false =>
      rw [hlt] at r
      rw [if_pos (by simp [lt, hlt])] at hT
      subst hT
      simp [k85l2, v0, v2, vt, hc, w2, g, hl, hd, e1, e2, l1, l2, l3, l4, dcore_f, s117, r]
      exact ⟨rfl, _, _, rfl, fun q hq hq' => by simp [ne hq, sm q hq hq'], hd, by repeat' first | exact sd | refine SD.bump ?_ _⟩
  · rw [sup_ge hc] at hT
    subst hT
    simp [k85l2, v2, vt, hc]
    exact ⟨rfl, _, _, rfl, fun q hq hq' => by simp [ne hq, sm q hq hq'], hd, by repeat' first | exact sd | refine SD.bump ?_ _⟩
end Go.Proofs.YtmncdmpeeibgmaaGreatDoor
/- The library's sort: the partial insertion sort. -/
namespace Go.Proofs.YtmncdmpeeibgmaaGreatDoor
open Go Go.Em
set_option maxRecDepth 100000
set_option linter.unusedSectionVars false
variable [Tl]
def k131t : Cd :=
  .seq (.region [⟨none, some 95, .inl (.mv (.s 2))⟩,
 ⟨none, some 96, .inl (.mv (.s 7))⟩,
 ⟨none, some 97, .inl (.bin .sub (.s 95) (.s 96))⟩,
 ⟨none, some 98, .inl (.bin .geq (.s 97) (.c (.int .i64 2)))⟩])
 (.cond (.s 98) (.seq (.region [⟨none, some 99, .inl (.mv (.s 7))⟩,
 ⟨none, some 100, .inl (.bin .add (.s 99) (.c (.int .i64 1)))⟩,
 ⟨none, some 10, .inl (.mv (.s 100))⟩])
 (.block 6 (.loop k85l2)))
 (.skip))
def k131u : Cd :=
  .seq (.seq (.region [⟨none, some 58, .inl (.mv (.s 7))⟩,
 ⟨none, some 59, .inl (.mv (.s 1))⟩,
 ⟨none, some 60, .inl (.bin .sub (.s 58) (.s 59))⟩,
 ⟨none, some 61, .inl (.bin .geq (.s 60) (.c (.int .i64 2)))⟩])
 (.cond (.s 61) (.seq (.region [⟨none, some 62, .inl (.mv (.s 7))⟩,
 ⟨none, some 63, .inl (.bin .sub (.s 62) (.c (.int .i64 1)))⟩,
 ⟨none, some 9, .inl (.mv (.s 63))⟩])
 (.block 4 (.loop k85l1)))
 (.skip)))
  k131t
theorem k131l3_eq : k85l3 = .seq (.seq (.region [⟨none, some 13, .inl (.mv (.s 8))⟩,
 ⟨none, some 14, .inl (.bin .lss (.s 13) (.c (.int .i64 5)))⟩])
 (.cond (.s 14) (.skip)
 (.exit 0)))
 (.seq (.block 1 (.seq (.block 2 (.loop k85l0))
 (.seq (.seq (.region [⟨none, some 35, .inl (.mv (.s 7))⟩,
 ⟨none, some 36, .inl (.mv (.s 2))⟩,
 ⟨none, some 37, .inl (.bin .eql (.s 35) (.s 36))⟩])
 (.cond (.s 37) (.seq (.region [⟨none, some 6, .inl (.mv (.c (.bool true)))⟩])
 (.ret))
 (.skip)))
 (.seq (.seq (.region [⟨none, some 38, .inl (.mv (.s 2))⟩,
 ⟨none, some 39, .inl (.mv (.s 1))⟩,
 ⟨none, some 40, .inl (.bin .sub (.s 38) (.s 39))⟩,
 ⟨none, some 41, .inl (.bin .lss (.s 40) (.c (.int .i64 50)))⟩])
 (.cond (.s 41) (.seq (.region [⟨none, some 6, .inl (.mv (.c (.bool false)))⟩])
 (.ret))
 (.skip)))
 (.seq (.draw [⟨⟨none, some 42, .inl (.mv (.s 0))⟩, some [], [], 0, false⟩,
 ⟨⟨none, some 43, .inl (.mv (.s 7))⟩, some [], [], 0, false⟩,
 ⟨⟨none, some 44, .inl (.mv (.s 0))⟩, some [], [], 0, false⟩,
 ⟨⟨none, some 45, .inl (.mv (.s 7))⟩, some [], [], 0, false⟩,
 ⟨⟨none, some 46, .inl (.bin .sub (.s 45) (.c (.int .i64 1)))⟩, some [], [], 8, false⟩,
 ⟨⟨none, some 47, .inl (.mv (.s 0))⟩, some [], [], 0, false⟩,
 ⟨⟨none, some 48, .inl (.mv (.s 7))⟩, some [], [], 0, false⟩,
 ⟨⟨none, some 49, .inl (.bin .sub (.s 48) (.c (.int .i64 1)))⟩, some [], [], 64, false⟩,
 ⟨⟨none, some 50, .inl (.ias 1 (.s 47) (.s 49))⟩, some [], [], 224, false⟩,
 ⟨⟨none, some 51, .inl (.ld false 1 (.s 50))⟩, some [], [], 480, false⟩,
 ⟨⟨none, some 52, .inl (.mv (.s 0))⟩, some [], [], 0, false⟩,
 ⟨⟨none, some 53, .inl (.mv (.s 7))⟩, some [], [], 0, false⟩,
 ⟨⟨none, some 54, .inl (.ias 1 (.s 52) (.s 53))⟩, some [], [], 3072, false⟩,
 ⟨⟨none, some 55, .inl (.ld false 1 (.s 54))⟩, some [], [], 7168, false⟩,
 ⟨⟨none, some 56, .inl (.ias 1 (.s 42) (.s 43))⟩, some [], [], 16355, false⟩,
 ⟨⟨none, none, .inl (.st 1 (.s 56) (.s 51))⟩, (some [.at 0]), [], 32739, false⟩,
 ⟨⟨none, some 57, .inl (.ias 1 (.s 44) (.s 46))⟩, some [], [], 65535, false⟩,
 ⟨⟨none, none, .inl (.st 1 (.s 57) (.s 55))⟩, (some [.at 0]), [], 131071, false⟩])
  k131u)))))
 (.region [⟨none, some 15, .inl (.mv (.s 8))⟩,
 ⟨none, some 16, .inl (.bin .add (.s 15) (.c (.int .i64 1)))⟩,
 ⟨none, some 8, .inl (.mv (.s 16))⟩])) := rfl
theorem Res.qd {L : Option (Ex × St)} {i1 i2 : Nat} {P Q : Ex → St → Prop} (h : Res L P) (hk : ∀ x s, P x s → Res (blockK i1 (blockK i2 (some (x, s)))) Q) : Res (blockK i1 (blockK i2 L)) Q := by
  obtain ⟨x, s, rfl, p⟩ := h; exact hk x s p
theorem Res.qe {L : Option (Ex × St)} {i1 i2 : Nat} {E F : St → Option (Ex × St)} {P Q : Ex → St → Prop} (h : Res L P) (hk : ∀ x s, P x s → Res (andThen (blockK i1 (andThen (blockK i2 (some (x, s))) E)) F) Q) : Res (andThen (blockK i1 (andThen (blockK i2 L) E)) F) Q := by
  obtain ⟨x, s, rfl, p⟩ := h; exact hk x s p
def qTQ (T : Array Int) (kb N : Nat) (z : Env 133) (h0 : Heap) (x : Ex) (s : St) : Prop := x = .normal ∧ ∃ (y : Env 133) (h : Heap), s = ⟨y.l, h, []⟩ ∧ (∀ q, q < 9 → y.v q = z.v q) ∧ T.size = N ∧ SD kb T h0 h
set_option maxHeartbeats 8000000 in
theorem tailt {d : Array Int} {a b i kb N : Nat} (hN : N ≤ 1000000) (hb : b ≤ N) (hi : 1 ≤ i) (hib : i ≤ b) (hd : d.size = N) {cap : Option Nat} {z : Env 133} {h0 h : Heap} (sd : SD kb d h0 h) (z0 : z.v 0 = .slr kb 0 N 1 cap) (z2 : z.v 2 = D.int b) (z7 : z.v 7 = D.int i) {n : Nat} (hn : N + 20 ≤ n) : Res (blockK 1 (k131t.ev ⟨pg, 133, none⟩ (rc pg n) ⟨z.l, h, []⟩)) (qTQ (Go.Sort.fixUp lt b i d) kb N z h0) := by
  have ne : ∀ {q : Nat}, q < 9 → ∀ t, 9 ≤ t → (t = q) = False := fun hq t ht => by simp; omega
  obtain ⟨w, hw⟩ : ∃ w, w = b - i := ⟨_, rfl⟩
  obtain ⟨i1, hi1⟩ : ∃ i1, i1 = i + 1 := ⟨_, rfl⟩
  have w1 : IntKind.i64.wrap ((b : Int) - (i : Int)) = (w : Int) := wn (by omega) (by omega)
  have w2 : IntKind.i64.wrap ((i : Int) + 1) = (i1 : Int) := wn (by omega) (by omega)
  unfold Go.Sort.fixUp
  rw [← hw, ← hi1]
  by_cases hc : w ≥ 2
  · have hc' : (2 : Int) ≤ (w : Int) := by omega
    have hc2 : 2 ≤ w := hc
    rw [if_pos hc]
    obtain ⟨T, hT⟩ : ∃ T, T = Go.Sort.shiftUp lt b i1 d := ⟨_, rfl⟩
    rw [← hT]
    simp [k131t, z2, z7, w1, w2, hc', ev_loop]
    refine Res.qd (lp_rule 2 (shI 10 6 (Go.Sort.shiftUp lt b) (fun t k => b ≤ t + k ∧ 1 ≤ t ∧ t ≤ b) T kb N _ h0) _ (sup_round T b kb N hN hb cap _ h0 ?_ ?_) (b - i1) n _ (by omega) ⟨_, _, d, i1, rfl, ⟨by omega, by omega, by omega⟩, fun _ _ _ => rfl, by simp, hd, by repeat' first | exact sd | refine SD.bump ?_ _, hT.symm⟩) ?_
    · simp [z0]
    · simp [z2]
    rintro x1 s1 ⟨rfl, y, h1, rfl, sm, hs, sd1⟩
    simp
    exact ⟨rfl, y, _, rfl, fun q hq => by rw [sm q (by omega) (by omega)]; simp [ne hq], hs, by repeat' first | exact sd1 | refine SD.bump ?_ _⟩
  · have hc' : ¬ ((2 : Int) ≤ (w : Int)) := by omega
    have hc2 : ¬ (2 ≤ w) := hc
    rw [if_neg hc]
    simp [k131t, z2, z7, w1, hc']
    exact ⟨rfl, _, _, rfl, fun q hq => by simp [ne hq], hd, by repeat' first | exact sd | refine SD.bump ?_ _⟩
set_option maxHeartbeats 8000000 in
theorem tailu {d : Array Int} {a b i kb N : Nat} (hN : N ≤ 1000000) (hb : b ≤ N) (hi : a < i) (hib : i ≤ b) (hd : d.size = N) {cap : Option Nat} {z : Env 133} {h0 h : Heap} (sd : SD kb d h0 h) (z0 : z.v 0 = .slr kb 0 N 1 cap) (z1 : z.v 1 = D.int a) (z2 : z.v 2 = D.int b) (z7 : z.v 7 = D.int i) {n : Nat} (hn : N + 20 ≤ n) : Res (blockK 1 (k131u.ev ⟨pg, 133, none⟩ (rc pg n) ⟨z.l, h, []⟩)) (qTQ (Go.Sort.fixUp lt b i (Go.Sort.fixDown lt a i d)) kb N z h0) := by
  have ne : ∀ {q : Nat}, q < 9 → ∀ t, 9 ≤ t → (t = q) = False := fun hq t ht => by simp; omega
  obtain ⟨w, hw⟩ : ∃ w, w = i - a := ⟨_, rfl⟩
  obtain ⟨i1, hi1⟩ : ∃ i1, i1 = i - 1 := ⟨_, rfl⟩
  have w1 : IntKind.i64.wrap ((i : Int) - (a : Int)) = (w : Int) := wn (by omega) (by omega)
  have w2 : IntKind.i64.wrap ((i : Int) - 1) = (i1 : Int) := wn (by omega) (by omega)
  by_cases hc : w ≥ 2
  · have hc' : (2 : Int) ≤ (w : Int) := by omega
    have hc2 : 2 ≤ w := hc
    have he : Go.Sort.fixDown lt a i d = Go.Sort.shiftDown lt i1 d := by unfold Go.Sort.fixDown; rw [← hw, ← hi1, if_pos hc]
    rw [he]
    obtain ⟨T, hT⟩ : ∃ T, T = Go.Sort.shiftDown lt i1 d := ⟨_, rfl⟩
    rw [← hT]
    simp [k131u, z1, z7, w1, w2, hc', ev_loop]
    refine Res.qc (lp_rule 2 (shI 9 4 (Go.Sort.shiftDown lt) (fun t k => t = k ∧ t < N) T kb N _ h0) _ (sdn_round T kb N hN cap _ h0 ?_) i1 n _ (by omega) ⟨_, _, d, i1, rfl, ⟨rfl, by omega⟩, fun _ _ _ => rfl, by simp, hd, by repeat' first | exact sd | refine SD.bump ?_ _, hT.symm⟩) ?_
    · simp [z0]
    rintro x1 s1 ⟨rfl, y, h1, rfl, sm, hs, sd1⟩
    simp
    have y0 := sm 0 (by omega) (by omega)
    have y2 := sm 2 (by omega) (by omega)
    have y7 := sm 7 (by omega) (by omega)
    simp [z0, z2, z7] at y0 y2 y7
    refine (tailt hN hb (by omega) hib hs sd1 y0 y2 y7 hn (a := a)).mono ?_
    rintro x2 s2 ⟨rfl, y', h2, rfl, sm2, hs2, sd2⟩
    exact ⟨rfl, y', _, rfl, fun q hq => by rw [sm2 q hq, sm q (by omega) (by omega)]; simp [ne hq], hs2, sd2⟩
  · have hc' : ¬ ((2 : Int) ≤ (w : Int)) := by omega
    have hc2 : ¬ (2 ≤ w) := hc
    have he : Go.Sort.fixDown lt a i d = d := by unfold Go.Sort.fixDown; rw [← hw, if_neg hc]
    rw [he]
    simp [k131u, z1, z7, w1, hc']
    refine (tailt hN hb (by omega) hib hd (kb := kb) (h0 := h0) (cap := cap) ?_ ?_ ?_ ?_ hn (a := a)).mono ?_
    · repeat' first | exact sd | refine SD.bump ?_ _
    · simp [z0]
    · simp [z2]
    · simp [z7]
    rintro x2 s2 ⟨rfl, y', h2, rfl, sm2, hs2, sd2⟩
    exact ⟨rfl, y', _, rfl, fun q hq => by rw [sm2 q hq]; simp [ne hq], hs2, sd2⟩
def qPS (T : Array Int × Bool) (a b kb N : Nat) (cap : Option Nat) (h0 : Heap) (k : Nat) (s : St) : Prop := ∃ (x : Env 133) (h : Heap) (d : Array Int) (i st : Nat), s = ⟨x.l, h, []⟩ ∧ st + k = 5 ∧ x.v 0 = .slr kb 0 N 1 cap ∧ x.v 1 = D.int a ∧ x.v 2 = D.int b ∧ x.v 7 = D.int i ∧ x.v 8 = D.int st ∧ a < i ∧ i ≤ b ∧ d.size = N ∧ SD kb d h0 h ∧ Go.Sort.partialIns lt a b k i d = T
def qPiQ (T : Array Int × Bool) (kb N : Nat) (h0 : Heap) (x : Ex) (s : St) : Prop := ∃ (y : Env 133) (h : Heap), s = ⟨y.l, h, []⟩ ∧ T.1.size = N ∧ SD kb T.1 h0 h ∧ ((x = .exit 0 ∧ T.2 = false) ∨ (x = .ret ∧ y.v 6 = D.bool T.2))
set_option maxHeartbeats 16000000 in
theorem pi_round (T : Array Int × Bool) (a b kb N : Nat) (hN : N ≤ 1000000) (hb : b ≤ N) (cap : Option Nat) (h0 : Heap) : ∀ n, N + 20 ≤ n → ∀ k s, qPS T a b kb N cap h0 k s → Res (k85l3.ev ⟨pg, 133, none⟩ (rc pg n) s) (Rnd (qPS T a b kb N cap h0) (qPiQ T kb N h0) k) := by
  rintro n hn k s ⟨x, h, d, i, st, rfl, hk, v0, v1, v2, v7, v8, hai, hib, hd, sd, hT⟩
  rw [k131l3_eq]
  cases k with
  | zero =>
    have hs : ¬ st < 5 := by omega
    have hs' : ¬ ((st : Int) < 5) := by omega
    simp [v8, hs']
    subst hT
    exact ⟨_, _, rfl, hd, by show SD kb d h0 _; repeat' first | exact sd | refine SD.bump ?_ _, .inl ⟨rfl, rfl⟩⟩
  | succ k =>
    have hs : st < 5 := by omega
    have hs' : ((st : Int) < 5) := by omega
    rw [Go.Sort.partialIns_succ] at hT
    obtain ⟨g1, g2⟩ := ss_le (d := d) (b := b) (b - i) i (by omega) hib
    obtain ⟨i2, hi2⟩ : ∃ t, t = Go.Sort.scanSorted lt d b i := ⟨_, rfl⟩
    rw [← hi2] at g1 g2 hT
    simp [v8, hs', ev_loop]
    refine Res.qe (lp_rule 2 (ssI i2 d b kb N _ h0) _ (qss_round i2 d b kb N hN hd hb cap _ h0 ?_ ?_) (b - i) n _ (by omega) ⟨_, _, i, rfl, by omega, fun _ _ _ => rfl, by simp [v7], by omega, hib, by repeat' first | exact sd | refine SD.bump ?_ _, hi2.symm⟩) ?_
    · simp [v0]
    · simp [v2]
    rintro x1 s1 ⟨rfl, y, h1, rfl, sm, y7, sd1⟩
    have y0 := sm 0 (by omega) (by omega)
    have y1 := sm 1 (by omega) (by omega)
    have y2 := sm 2 (by omega) (by omega)
    have y8 := sm 8 (by omega) (by omega)
    simp [v0, v1, v2, v8] at y0 y1 y2 y8
    have g := sd1.g
    by_cases hc : i2 = b
    · rw [if_pos hc] at hT
      subst hT
      simp [y2, y7, hc]
      exact ⟨_, _, rfl, hd, by show SD kb d h0 _; repeat' first | exact sd1 | refine SD.bump ?_ _, .inr ⟨rfl, by simp⟩⟩
    · rw [if_neg hc] at hT
      have hcb : ((i2 : Int) == (b : Int)) = false := by simp; omega
      obtain ⟨w, hw⟩ : ∃ w, w = b - a := ⟨_, rfl⟩
      have w1 : IntKind.i64.wrap ((b : Int) - (a : Int)) = (w : Int) := wn (by omega) (by omega)
      rw [← hw] at hT
      by_cases hc5 : w < 50
      · rw [if_pos hc5] at hT
        subst hT
        have hc5' : (w : Int) < 50 := by omega
        simp [-beq_eq_false_iff_ne, y1, y2, y7, hcb, w1, hc5']
        exact ⟨_, _, rfl, hd, by show SD kb d h0 _; repeat' first | exact sd1 | refine SD.bump ?_ _, .inr ⟨rfl, by simp⟩⟩
      · rw [if_neg hc5] at hT
        have hc5' : ¬ ((w : Int) < 50) := by omega
        obtain ⟨u, hu⟩ : ∃ u, u = i2 - 1 := ⟨_, rfl⟩
        rw [← hu] at hT
        have w2 : IntKind.i64.wrap ((i2 : Int) - 1) = (u : Int) := wn (by omega) (by omega)
        have w3 : IntKind.i64.wrap ((st : Int) + 1) = ((st + 1 : Nat) : Int) := wn (by omega) (by omega)
        have htS : i2 < d.size := by omega
        have huS : u < d.size := by omega
        have l1 : i2 < N := by omega
        have l2 : i2 + 1 ≤ N := by omega
        have l3 : u < N := by omega
        have l4 : u + 1 ≤ N := by omega
        obtain ⟨C, C1, C2, va, vb, hC, hl, hl1, hl2, f1, f2, e1, e2, p1, p2, c1, c2, q1, q2⟩ := swp_facts htS huS
        rw [← hC] at g
        simp [-beq_eq_false_iff_ne, y0, y1, y2, y7, hcb, w1, w2, hc5', D.cells, D.one, g, hl, hl1, hd, e1, e2, p1, p2, l1, l2, l3, l4]
        refine Res.bind (tailu hN hb (show a < i2 by omega) g2 (swp_size d i2 u hd) (kb := kb) (h0 := h0) (cap := cap) ?_ ?_ ?_ ?_ ?_ hn) ?_
        · repeat' first | exact sd1 | refine SD.bump ?_ _ | refine SD.two ?_ c1 c2
        · simp [y0]
        · simp [y1]
        · simp [y2]
        · simp [y7]
        rintro x2 s2 ⟨rfl, y', h2, rfl, sm2, hs2, sd2⟩
        have z0 := sm2 0 (by omega)
        have z1 := sm2 1 (by omega)
        have z2 := sm2 2 (by omega)
        have z7 := sm2 7 (by omega)
        have z8 := sm2 8 (by omega)
        simp [y0, y1, y2, y7, y8] at z0 z1 z2 z7 z8
        simp [z8, w3]
        exact ⟨_, _, _, i2, st + 1, rfl, by omega, by simp [z0], by simp [z1], by simp [z2], by simp [z7], by simp, by omega, g2, hs2, by repeat' first | exact sd2 | refine SD.bump ?_ _, hT⟩
set_option maxHeartbeats 8000000 in
theorem pins_sh {kb : Nat} {d : Array Int} {h : Heap} (hg : h.get kb = some (.cells 3 (dl d))) (hk : kb < h.next) (hf : h.Fr) {N : Nat} (hd : d.size = N) (hN : N ≤ 1000000) (cap : Option Nat) {a b : Nat} (hab : a < b) (hb : b ≤ N) {n : Nat} (hn : N + 60 ≤ n) :
    ∃ h', (rc pg n).fn 85 [.slr kb 0 N 1 cap, D.int a, D.int b] h = some (.ret (D.bool (Go.Sort.partialInsertionSort lt d a b).2), h') ∧ SD kb (Go.Sort.partialInsertionSort lt d a b).1 h h' ∧ (Go.Sort.partialInsertionSort lt d a b).1.size = N := by
  obtain ⟨m, rfl, e⟩ := fn_body (pg := pg) (f := 85) (args := [.slr kb 0 N 1 cap, D.int a, D.int b]) (h := h) (show 0 < n by omega) rfl rfl
  rw [e]
  have sd := SD.refl hg hk hf
  have w1 : IntKind.i64.wrap ((a : Int) + 1) = ((a + 1 : Nat) : Int) := wn (by omega) (by omega)
  obtain ⟨T, hT⟩ : ∃ T, Go.Sort.partialIns lt a b 5 (a + 1) d = T := ⟨_, rfl⟩
  have hT' : Go.Sort.partialInsertionSort lt d a b = T := hT
  rw [hT']
  obtain ⟨a1, ha1⟩ : ∃ a1, a1 = a + 1 := ⟨_, rfl⟩
  rw [← ha1] at w1 hT
  simp [k85, Env.v_ini, w1, ev_loop]
  refine Res.fin3 (lp_rule (N + 20) (qPS T a b kb N cap h) _ (pi_round T a b kb N hN hb cap h) 5 m _ (by omega) ⟨_, _, d, a1, 0, rfl, by omega, by simp [Env.v_ini], by simp [Env.v_ini], by simp [Env.v_ini], by simp, by simp, by omega, by omega, hd, by repeat' first | exact sd | refine SD.bump ?_ _, hT⟩) ?_
  rintro x s ⟨y, h', rfl, hs, sd', (⟨rfl, ht⟩ | ⟨rfl, ht⟩)⟩
  · simp [ht]
    exact ⟨by repeat' first | exact sd' | refine SD.bump ?_ _, hs⟩
  · simp [ht]
    exact ⟨by repeat' first | exact sd' | refine SD.bump ?_ _, hs⟩
end Go.Proofs.YtmncdmpeeibgmaaGreatDoor
