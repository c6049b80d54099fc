/- The library's sort: the scans of the partitions. -/
import Derived.Test.YtlddgfkdicgbeaaGreatDoorKs0
namespace Go.Proofs.YtlddgfkdicgbeaaGreatDoor
open Go Go.Em
set_option maxRecDepth 100000
theorem scanUp_go {p : EE → Bool} {d : Array EE} {j i : Nat} (h : i ≤ j) (hp : p d[i]! = true) : Go.Sort.scanUp p d j i = Go.Sort.scanUp p d j (i + 1) := by
  rw [Go.Sort.scanUp, if_pos (by simp [h, hp])]
theorem scanUp_no {p : EE → Bool} {d : Array EE} {j i : Nat} (h : i ≤ j → p d[i]! = false) : Go.Sort.scanUp p d j i = i := by
  rw [Go.Sort.scanUp, if_neg (by simp; intro a; simpa using h a)]
theorem scanDown_go {p : EE → Bool} {d : Array EE} {j i : Nat} (h1 : 1 ≤ j) (h : i ≤ j) (hp : p d[j]! = true) : Go.Sort.scanDown p d i j = Go.Sort.scanDown p d i (j - 1) := by
  obtain ⟨m, rfl⟩ : ∃ m, j = m + 1 := ⟨j - 1, by omega⟩
  rw [Go.Sort.scanDown, if_pos (by simp [h, hp])]
  rfl
theorem scanDown_no {p : EE → Bool} {d : Array EE} {j i : Nat} (h : i ≤ j → p d[j]! = false) : Go.Sort.scanDown p d i j = j := by
  cases j with
  | zero => rfl
  | succ m => rw [Go.Sort.scanDown, if_neg (by simp; intro a; simpa using h a)]
def puI (T : Nat) (d : Array EE) (a j kb N : Nat) (x0 : Env 178) (h0 : Heap) (k : Nat) (s : St) : Prop := ∃ (x : Env 178) (h : Heap) (t : Nat), s = ⟨x.l, h, []⟩ ∧ t + k = j + 1 ∧ (∀ q, q < 14 → q ≠ 12 → x.v q = x0.v q) ∧ x.v 12 = D.int t ∧ t ≤ N ∧ SD kb d h0 h ∧ Go.Sort.scanUp (fun x => lt x d[a]!) d j t = T
def puQ (T : Nat) (d : Array EE) (kb : Nat) (x0 : Env 178) (h0 : Heap) (x : Ex) (s : St) : Prop := x = .exit 0 ∧ ∃ (x : Env 178) (h : Heap), s = ⟨x.l, h, []⟩ ∧ (∀ q, q < 14 → q ≠ 12 → x.v q = x0.v q) ∧ x.v 12 = D.int T ∧ SD kb d h0 h
set_option maxHeartbeats 8000000 in
theorem pu_round (T : Nat) (d : Array EE) (a j kb N : Nat) (hN : N ≤ 10000000) (haN : a < d.size) (hd : d.size = N) (hj : j < N) (cap : Option Nat) (x0 : Env 178) (h0 : Heap) (z0 : x0.v 0 = .slr kb 0 N 3 cap) (zc : x0.v 4 = cF) (z1 : x0.v 1 = D.int a) (z2 : x0.v 13 = D.int j) : ∀ n, 3 ≤ n → ∀ k s, puI T d a j kb N x0 h0 k s → Res (k114l0.ev ⟨pg, 178, none⟩ (rc pg n) s) (Rnd (puI T d a j kb N x0 h0) (puQ T d kb x0 h0) k) := by
  rintro n hn k s ⟨x, h, t, rfl, hk, sm, vt, htN, sd, hT⟩
  have g := sd.g
  have v0 := (sm 0 (by omega) (by omega)).trans z0
  have vc := (sm 4 (by omega) (by omega)).trans zc
  have v1 := (sm 1 (by omega) (by omega)).trans z1
  have vo := (sm 13 (by omega) (by omega)).trans z2
  have ne : ∀ {q : Nat}, q < 14 → ∀ t, 14 ≤ t → (t = q) = False := fun hq t ht => by simp; omega
  by_cases hc : t ≤ j
  · have htS : t < d.size := by omega
    have ht1 : t < N := by omega
    have ht2 : t + 1 ≤ N := by omega
    have ha1 : a < N := by omega
    have ha2 : a + 1 ≤ N := by omega
    have w1 : IntKind.i64.wrap ((t : Int) + 1) = ((t : Int) + 1) := wrap_i64 (by omega) (by omega)
    obtain ⟨C, hC⟩ : ∃ C, C = eCs d := ⟨_, rfl⟩
    obtain ⟨vt', f1, e1, y1⟩ := get_fact htS hC
    obtain ⟨va, f2, e2, y2⟩ := get_fact haN hC
    rw [← hC] at g
    cases hlt : lt vt' va with
    | true =>
      obtain ⟨zr, r, rr⟩ := lss_c (n := n) hn hlt
      rw [scanUp_go hc (by simp [y1, y2, hlt])] at hT
      simp [k114l0, v0, vc, v1, vo, vt, hc, w1, g, e1, f1, e2, f2, ht1, ha1, r, rr]
      exact ⟨k - 1, by omega, _, _, t + 1, rfl, by omega, fun q hq hq' => by simp [ne hq, Ne.symm hq', sm q hq hq'], by simp, by omega, by repeat' first | exact sd | refine SD.bump ?_ _, hT⟩
    | false =>
      obtain ⟨zr, r, rr⟩ := lss_c (n := n) hn hlt
      rw [scanUp_no (fun _ => by simp [y1, y2, hlt])] at hT
      subst hT
      simp [k114l0, v0, vc, v1, vo, vt, hc, g, e1, f1, e2, f2, ht1, ha1, r, rr]
      exact ⟨rfl, _, _, rfl, fun q hq hq' => by simp [ne hq, sm q hq hq'], by simp [vt], by repeat' first | exact sd | refine SD.bump ?_ _⟩
  · rw [scanUp_no (fun h => absurd h hc)] at hT
    subst hT
    simp [k114l0, vo, vt, hc]
    exact ⟨rfl, _, _, rfl, fun q hq hq' => by simp [ne hq, sm q hq hq'], by simp [vt], by repeat' first | exact sd | refine SD.bump ?_ _⟩
def pdI (T : Nat) (d : Array EE) (a i kb N : Nat) (x0 : Env 178) (h0 : Heap) (k : Nat) (s : St) : Prop := ∃ (x : Env 178) (h : Heap) (t : Nat), s = ⟨x.l, h, []⟩ ∧ t + 1 = i + k ∧ (∀ q, q < 14 → q ≠ 13 → x.v q = x0.v q) ∧ x.v 13 = D.int t ∧ t < N ∧ SD kb d h0 h ∧ Go.Sort.scanDown (fun x => !lt x d[a]!) d i t = T
def pdQ (T : Nat) (d : Array EE) (kb : Nat) (x0 : Env 178) (h0 : Heap) (x : Ex) (s : St) : Prop := x = .exit 2 ∧ ∃ (x : Env 178) (h : Heap), s = ⟨x.l, h, []⟩ ∧ (∀ q, q < 14 → q ≠ 13 → x.v q = x0.v q) ∧ x.v 13 = D.int T ∧ SD kb d h0 h
set_option maxHeartbeats 8000000 in
theorem pd_round (T : Nat) (d : Array EE) (a i kb N : Nat) (hN : N ≤ 10000000) (haN : a < d.size) (hd : d.size = N) (hi1 : 1 ≤ i) (cap : Option Nat) (x0 : Env 178) (h0 : Heap) (z0 : x0.v 0 = .slr kb 0 N 3 cap) (zc : x0.v 4 = cF) (z1 : x0.v 1 = D.int a) (z2 : x0.v 12 = D.int i) : ∀ n, 3 ≤ n → ∀ k s, pdI T d a i kb N x0 h0 k s → Res (k114l1.ev ⟨pg, 178, none⟩ (rc pg n) s) (Rnd (pdI T d a i kb N x0 h0) (pdQ T d kb x0 h0) k) := by
  rintro n hn k s ⟨x, h, t, rfl, hk, sm, vt, htN, sd, hT⟩
  have g := sd.g
  have v0 := (sm 0 (by omega) (by omega)).trans z0
  have vc := (sm 4 (by omega) (by omega)).trans zc
  have v1 := (sm 1 (by omega) (by omega)).trans z1
  have vo := (sm 12 (by omega) (by omega)).trans z2
  have ne : ∀ {q : Nat}, q < 14 → ∀ t, 14 ≤ t → (t = q) = False := fun hq t ht => by simp; omega
  by_cases hc : i ≤ t
  · have htS : t < d.size := by omega
    have ht1 : t < N := by omega
    have ht2 : t + 1 ≤ N := by omega
    have ha1 : a < N := by omega
    have ha2 : a + 1 ≤ N := by omega
    have w1 : IntKind.i64.wrap ((t : Int) - 1) = (((t - 1 : Nat) : Int)) := wn (by omega) (by omega)
    obtain ⟨C, hC⟩ : ∃ C, C = eCs d := ⟨_, rfl⟩
    obtain ⟨vt', f1, e1, y1⟩ := get_fact htS hC
    obtain ⟨va, f2, e2, y2⟩ := get_fact haN hC
    rw [← hC] at g
    cases hlt : lt vt' va with
    | true =>
      obtain ⟨zr, r, rr⟩ := lss_c (n := n) hn hlt
      rw [scanDown_no (fun _ => by simp [y1, y2, hlt])] at hT
      subst hT
      simp [k114l1, v0, vc, v1, vo, vt, hc, g, e1, f1, e2, f2, ht1, ha1, r, rr]
      exact ⟨rfl, _, _, rfl, fun q hq hq' => by simp [ne hq, sm q hq hq'], by simp [vt], by repeat' first | exact sd | refine SD.bump ?_ _⟩
    | false =>
      obtain ⟨zr, r, rr⟩ := lss_c (n := n) hn hlt
      rw [scanDown_go (show 1 ≤ t by omega) hc (by simp [y1, y2, hlt])] at hT
      simp [k114l1, v0, vc, v1, vo, vt, hc, w1, g, e1, f1, e2, f2, ht1, ha1, r, rr]
      exact ⟨k - 1, by omega, _, _, t - 1, rfl, by omega, fun q hq hq' => by simp [ne hq, Ne.symm hq', sm q hq hq'], by simp, by omega, by repeat' first | exact sd | refine SD.bump ?_ _, hT⟩
  · rw [scanDown_no (fun h => absurd h hc)] at hT
    subst hT
    simp [k114l1, vo, vt, hc]
    exact ⟨rfl, _, _, rfl, fun q hq hq' => by simp [ne hq, sm q hq hq'], by simp [vt], by repeat' first | exact sd | refine SD.bump ?_ _⟩
def pvI (T : Nat) (d : Array EE) (a j kb N : Nat) (x0 : Env 178) (h0 : Heap) (k : Nat) (s : St) : Prop := ∃ (x : Env 178) (h : Heap) (t : Nat), s = ⟨x.l, h, []⟩ ∧ t + k = j + 1 ∧ (∀ q, q < 14 → q ≠ 12 → x.v q = x0.v q) ∧ x.v 12 = D.int t ∧ t ≤ N ∧ SD kb d h0 h ∧ Go.Sort.scanUp (fun x => lt x d[a]!) d j t = T
def pvQ (T : Nat) (d : Array EE) (kb : Nat) (x0 : Env 178) (h0 : Heap) (x : Ex) (s : St) : Prop := x = .exit 6 ∧ ∃ (x : Env 178) (h : Heap), s = ⟨x.l, h, []⟩ ∧ (∀ q, q < 14 → q ≠ 12 → x.v q = x0.v q) ∧ x.v 12 = D.int T ∧ SD kb d h0 h
set_option maxHeartbeats 8000000 in
theorem pv_round (T : Nat) (d : Array EE) (a j kb N : Nat) (hN : N ≤ 10000000) (haN : a < d.size) (hd : d.size = N) (hj : j < N) (cap : Option Nat) (x0 : Env 178) (h0 : Heap) (z0 : x0.v 0 = .slr kb 0 N 3 cap) (zc : x0.v 4 = cF) (z1 : x0.v 1 = D.int a) (z2 : x0.v 13 = D.int j) : ∀ n, 3 ≤ n → ∀ k s, pvI T d a j kb N x0 h0 k s → Res (k114l2.ev ⟨pg, 178, none⟩ (rc pg n) s) (Rnd (pvI T d a j kb N x0 h0) (pvQ T d kb x0 h0) k) := by
  rintro n hn k s ⟨x, h, t, rfl, hk, sm, vt, htN, sd, hT⟩
  have g := sd.g
  have v0 := (sm 0 (by omega) (by omega)).trans z0
  have vc := (sm 4 (by omega) (by omega)).trans zc
  have v1 := (sm 1 (by omega) (by omega)).trans z1
  have vo := (sm 13 (by omega) (by omega)).trans z2
  have ne : ∀ {q : Nat}, q < 14 → ∀ t, 14 ≤ t → (t = q) = False := fun hq t ht => by simp; omega
  by_cases hc : t ≤ j
  · have htS : t < d.size := by omega
    have ht1 : t < N := by omega
    have ht2 : t + 1 ≤ N := by omega
    have ha1 : a < N := by omega
    have ha2 : a + 1 ≤ N := by omega
    have w1 : IntKind.i64.wrap ((t : Int) + 1) = ((t : Int) + 1) := wrap_i64 (by omega) (by omega)
    obtain ⟨C, hC⟩ : ∃ C, C = eCs d := ⟨_, rfl⟩
    obtain ⟨vt', f1, e1, y1⟩ := get_fact htS hC
    obtain ⟨va, f2, e2, y2⟩ := get_fact haN hC
    rw [← hC] at g
    cases hlt : lt vt' va with
    | true =>
      obtain ⟨zr, r, rr⟩ := lss_c (n := n) hn hlt
      rw [scanUp_go hc (by simp [y1, y2, hlt])] at hT
      simp [k114l2, v0, vc, v1, vo, vt, hc, w1, g, e1, f1, e2, f2, ht1, ha1, r, rr]
      exact ⟨k - 1, by omega, _, _, t + 1, rfl, by omega, fun q hq hq' => by simp [ne hq, Ne.symm hq', sm q hq hq'], by simp, by omega, by repeat' first | exact sd | refine SD.bump ?_ _, hT⟩
    | false =>
      obtain ⟨zr, r, rr⟩ := lss_c (n := n) hn hlt
      rw [scanUp_no (fun _ => by simp [y1, y2, hlt])] at hT
      subst hT
      simp [k114l2, v0, vc, v1, vo, vt, hc, g, e1, f1, e2, f2, ht1, ha1, r, rr]
      exact ⟨rfl, _, _, rfl, fun q hq hq' => by simp [ne hq, sm q hq hq'], by simp [vt], by repeat' first | exact sd | refine SD.bump ?_ _⟩
  · rw [scanUp_no (fun h => absurd h hc)] at hT
    subst hT
    simp [k114l2, vo, vt, hc]
    exact ⟨rfl, _, _, rfl, fun q hq hq' => by simp [ne hq, sm q hq hq'], by simp [vt], by repeat' first | exact sd | refine SD.bump ?_ _⟩
def pwI (T : Nat) (d : Array EE) (a i kb N : Nat) (x0 : Env 178) (h0 : Heap) (k : Nat) (s : St) : Prop := ∃ (x : Env 178) (h : Heap) (t : Nat), s = ⟨x.l, h, []⟩ ∧ t + 1 = i + k ∧ (∀ q, q < 14 → q ≠ 13 → x.v q = x0.v q) ∧ x.v 13 = D.int t ∧ t < N ∧ SD kb d h0 h ∧ Go.Sort.scanDown (fun x => !lt x d[a]!) d i t = T
def pwQ (T : Nat) (d : Array EE) (kb : Nat) (x0 : Env 178) (h0 : Heap) (x : Ex) (s : St) : Prop := x = .exit 8 ∧ ∃ (x : Env 178) (h : Heap), s = ⟨x.l, h, []⟩ ∧ (∀ q, q < 14 → q ≠ 13 → x.v q = x0.v q) ∧ x.v 13 = D.int T ∧ SD kb d h0 h
set_option maxHeartbeats 8000000 in
theorem pw_round (T : Nat) (d : Array EE) (a i kb N : Nat) (hN : N ≤ 10000000) (haN : a < d.size) (hd : d.size = N) (hi1 : 1 ≤ i) (cap : Option Nat) (x0 : Env 178) (h0 : Heap) (z0 : x0.v 0 = .slr kb 0 N 3 cap) (zc : x0.v 4 = cF) (z1 : x0.v 1 = D.int a) (z2 : x0.v 12 = D.int i) : ∀ n, 3 ≤ n → ∀ k s, pwI T d a i kb N x0 h0 k s → Res (k114l3.ev ⟨pg, 178, none⟩ (rc pg n) s) (Rnd (pwI T d a i kb N x0 h0) (pwQ T d kb x0 h0) k) := by
  rintro n hn k s ⟨x, h, t, rfl, hk, sm, vt, htN, sd, hT⟩
  have g := sd.g
  have v0 := (sm 0 (by omega) (by omega)).trans z0
  have vc := (sm 4 (by omega) (by omega)).trans zc
  have v1 := (sm 1 (by omega) (by omega)).trans z1
  have vo := (sm 12 (by omega) (by omega)).trans z2
  have ne : ∀ {q : Nat}, q < 14 → ∀ t, 14 ≤ t → (t = q) = False := fun hq t ht => by simp; omega
  by_cases hc : i ≤ t
  · have htS : t < d.size := by omega
    have ht1 : t < N := by omega
    have ht2 : t + 1 ≤ N := by omega
    have ha1 : a < N := by omega
    have ha2 : a + 1 ≤ N := by omega
    have w1 : IntKind.i64.wrap ((t : Int) - 1) = (((t - 1 : Nat) : Int)) := wn (by omega) (by omega)
    obtain ⟨C, hC⟩ : ∃ C, C = eCs d := ⟨_, rfl⟩
    obtain ⟨vt', f1, e1, y1⟩ := get_fact htS hC
    obtain ⟨va, f2, e2, y2⟩ := get_fact haN hC
    rw [← hC] at g
    cases hlt : lt vt' va with
    | true =>
      obtain ⟨zr, r, rr⟩ := lss_c (n := n) hn hlt
      rw [scanDown_no (fun _ => by simp [y1, y2, hlt])] at hT
      subst hT
      simp [k114l3, v0, vc, v1, vo, vt, hc, g, e1, f1, e2, f2, ht1, ha1, r, rr]
      exact ⟨rfl, _, _, rfl, fun q hq hq' => by simp [ne hq, sm q hq hq'], by simp [vt], by repeat' first | exact sd | refine SD.bump ?_ _⟩
    | false =>
      obtain ⟨zr, r, rr⟩ := lss_c (n := n) hn hlt
      rw [scanDown_go (show 1 ≤ t by omega) hc (by simp [y1, y2, hlt])] at hT
      simp [k114l3, v0, vc, v1, vo, vt, hc, w1, g, e1, f1, e2, f2, ht1, ha1, r, rr]
      exact ⟨k - 1, by omega, _, _, t - 1, rfl, by omega, fun q hq hq' => by simp [ne hq, Ne.symm hq', sm q hq hq'], by simp, by omega, by repeat' first | exact sd | refine SD.bump ?_ _, hT⟩
  · rw [scanDown_no (fun h => absurd h hc)] at hT
    subst hT
    simp [k114l3, vo, vt, hc]
    exact ⟨rfl, _, _, rfl, fun q hq hq' => by simp [ne hq, sm q hq hq'], by simp [vt], by repeat' first | exact sd | refine SD.bump ?_ _⟩
def quI (T : Nat) (d : Array EE) (a j kb N : Nat) (x0 : Env 90) (h0 : Heap) (k : Nat) (s : St) : Prop := ∃ (x : Env 90) (h : Heap) (t : Nat), s = ⟨x.l, h, []⟩ ∧ t + k = j + 1 ∧ (∀ q, q < 13 → q ≠ 11 → x.v q = x0.v q) ∧ x.v 11 = D.int t ∧ t ≤ N ∧ SD kb d h0 h ∧ Go.Sort.scanUp (fun x => !lt d[a]! x) d j t = T
def quQ (T : Nat) (d : Array EE) (kb : Nat) (x0 : Env 90) (h0 : Heap) (x : Ex) (s : St) : Prop := x = .exit 2 ∧ ∃ (x : Env 90) (h : Heap), s = ⟨x.l, h, []⟩ ∧ (∀ q, q < 13 → q ≠ 11 → x.v q = x0.v q) ∧ x.v 11 = D.int T ∧ SD kb d h0 h
set_option maxHeartbeats 8000000 in
theorem qu_round (T : Nat) (d : Array EE) (a j kb N : Nat) (hN : N ≤ 10000000) (haN : a < d.size) (hd : d.size = N) (hj : j < N) (cap : Option Nat) (x0 : Env 90) (h0 : Heap) (z0 : x0.v 0 = .slr kb 0 N 3 cap) (zc : x0.v 4 = cF) (z1 : x0.v 1 = D.int a) (z2 : x0.v 12 = D.int j) : ∀ n, 3 ≤ n → ∀ k s, quI T d a j kb N x0 h0 k s → Res (k113l0.ev ⟨pg, 90, none⟩ (rc pg n) s) (Rnd (quI T d a j kb N x0 h0) (quQ T d kb x0 h0) k) := by
  rintro n hn k s ⟨x, h, t, rfl, hk, sm, vt, htN, sd, hT⟩
  have g := sd.g
  have v0 := (sm 0 (by omega) (by omega)).trans z0
  have vc := (sm 4 (by omega) (by omega)).trans zc
  have v1 := (sm 1 (by omega) (by omega)).trans z1
  have vo := (sm 12 (by omega) (by omega)).trans z2
  have ne : ∀ {q : Nat}, q < 13 → ∀ t, 13 ≤ t → (t = q) = False := fun hq t ht => by simp; omega
  by_cases hc : t ≤ j
  · have htS : t < d.size := by omega
    have ht1 : t < N := by omega
    have ht2 : t + 1 ≤ N := by omega
    have ha1 : a < N := by omega
    have ha2 : a + 1 ≤ N := by omega
    have w1 : IntKind.i64.wrap ((t : Int) + 1) = ((t : Int) + 1) := wrap_i64 (by omega) (by omega)
    obtain ⟨C, hC⟩ : ∃ C, C = eCs d := ⟨_, rfl⟩
    obtain ⟨vt', f1, e1, y1⟩ := get_fact htS hC
    obtain ⟨va, f2, e2, y2⟩ := get_fact haN hC
    rw [← hC] at g
    cases hlt : lt va vt' with
    | true =>
      obtain ⟨zr, r, rr⟩ := lss_c (n := n) hn hlt
      rw [scanUp_no (fun _ => by simp [y1, y2, hlt])] at hT
      subst hT
      simp [k113l0, v0, vc, v1, vo, vt, hc, g, e1, f1, e2, f2, ht1, ha1, r, rr]
      exact ⟨rfl, _, _, rfl, fun q hq hq' => by simp [ne hq, sm q hq hq'], by simp [vt], by repeat' first | exact sd | refine SD.bump ?_ _⟩
    | false =>
      obtain ⟨zr, r, rr⟩ := lss_c (n := n) hn hlt
      rw [scanUp_go hc (by simp [y1, y2, hlt])] at hT
      simp [k113l0, v0, vc, v1, vo, vt, hc, w1, g, e1, f1, e2, f2, ht1, ha1, r, rr]
      exact ⟨k - 1, by omega, _, _, t + 1, rfl, by omega, fun q hq hq' => by simp [ne hq, Ne.symm hq', sm q hq hq'], by simp, by omega, by repeat' first | exact sd | refine SD.bump ?_ _, hT⟩
  · rw [scanUp_no (fun h => absurd h hc)] at hT
    subst hT
    simp [k113l0, vo, vt, hc]
    exact ⟨rfl, _, _, rfl, fun q hq hq' => by simp [ne hq, sm q hq hq'], by simp [vt], by repeat' first | exact sd | refine SD.bump ?_ _⟩
def qdI (T : Nat) (d : Array EE) (a i kb N : Nat) (x0 : Env 90) (h0 : Heap) (k : Nat) (s : St) : Prop := ∃ (x : Env 90) (h : Heap) (t : Nat), s = ⟨x.l, h, []⟩ ∧ t + 1 = i + k ∧ (∀ q, q < 13 → q ≠ 12 → x.v q = x0.v q) ∧ x.v 12 = D.int t ∧ t < N ∧ SD kb d h0 h ∧ Go.Sort.scanDown (fun x => lt d[a]! x) d i t = T
def qdQ (T : Nat) (d : Array EE) (kb : Nat) (x0 : Env 90) (h0 : Heap) (x : Ex) (s : St) : Prop := x = .exit 4 ∧ ∃ (x : Env 90) (h : Heap), s = ⟨x.l, h, []⟩ ∧ (∀ q, q < 13 → q ≠ 12 → x.v q = x0.v q) ∧ x.v 12 = D.int T ∧ SD kb d h0 h
set_option maxHeartbeats 8000000 in
theorem qd_round (T : Nat) (d : Array EE) (a i kb N : Nat) (hN : N ≤ 10000000) (haN : a < d.size) (hd : d.size = N) (hi1 : 1 ≤ i) (cap : Option Nat) (x0 : Env 90) (h0 : Heap) (z0 : x0.v 0 = .slr kb 0 N 3 cap) (zc : x0.v 4 = cF) (z1 : x0.v 1 = D.int a) (z2 : x0.v 11 = D.int i) : ∀ n, 3 ≤ n → ∀ k s, qdI T d a i kb N x0 h0 k s → Res (k113l1.ev ⟨pg, 90, none⟩ (rc pg n) s) (Rnd (qdI T d a i kb N x0 h0) (qdQ T d kb x0 h0) k) := by
  rintro n hn k s ⟨x, h, t, rfl, hk, sm, vt, htN, sd, hT⟩
  have g := sd.g
  have v0 := (sm 0 (by omega) (by omega)).trans z0
  have vc := (sm 4 (by omega) (by omega)).trans zc
  have v1 := (sm 1 (by omega) (by omega)).trans z1
  have vo := (sm 11 (by omega) (by omega)).trans z2
  have ne : ∀ {q : Nat}, q < 13 → ∀ t, 13 ≤ t → (t = q) = False := fun hq t ht => by simp; omega
  by_cases hc : i ≤ t
  · have htS : t < d.size := by omega
    have ht1 : t < N := by omega
    have ht2 : t + 1 ≤ N := by omega
    have ha1 : a < N := by omega
    have ha2 : a + 1 ≤ N := by omega
    have w1 : IntKind.i64.wrap ((t : Int) - 1) = (((t - 1 : Nat) : Int)) := wn (by omega) (by omega)
    obtain ⟨C, hC⟩ : ∃ C, C = eCs d := ⟨_, rfl⟩
    obtain ⟨vt', f1, e1, y1⟩ := get_fact htS hC
    obtain ⟨va, f2, e2, y2⟩ := get_fact haN hC
    rw [← hC] at g
    cases hlt : lt va vt' with
    | true =>
      obtain ⟨zr, r, rr⟩ := lss_c (n := n) hn hlt
      rw [scanDown_go (show 1 ≤ t by omega) hc (by simp [y1, y2, hlt])] at hT
      simp [k113l1, v0, vc, v1, vo, vt, hc, w1, g, e1, f1, e2, f2, ht1, ha1, r, rr]
      exact ⟨k - 1, by omega, _, _, t - 1, rfl, by omega, fun q hq hq' => by simp [ne hq, Ne.symm hq', sm q hq hq'], by simp, by omega, by repeat' first | exact sd | refine SD.bump ?_ _, hT⟩
    | false =>
      obtain ⟨zr, r, rr⟩ := lss_c (n := n) hn hlt
      rw [scanDown_no (fun _ => by simp [y1, y2, hlt])] at hT
      subst hT
      simp [k113l1, v0, vc, v1, vo, vt, hc, g, e1, f1, e2, f2, ht1, ha1, r, rr]
      exact ⟨rfl, _, _, rfl, fun q hq hq' => by simp [ne hq, sm q hq hq'], by simp [vt], by repeat' first | exact sd | refine SD.bump ?_ _⟩
  · rw [scanDown_no (fun h => absurd h hc)] at hT
    subst hT
    simp [k113l1, vo, vt, hc]
    exact ⟨rfl, _, _, rfl, fun q hq hq' => by simp [ne hq, sm q hq hq'], by simp [vt], by repeat' first | exact sd | refine SD.bump ?_ _⟩
end Go.Proofs.YtlddgfkdicgbeaaGreatDoor
/- The library's sort: the partitions. -/
namespace Go.Proofs.YtlddgfkdicgbeaaGreatDoor
open Go Go.Em
set_option maxRecDepth 100000
theorem Res.qc {L : Option (Ex × St)} {i1 i2 : Nat} {E : St → Option (Ex × St)} {P Q : Ex → St → Prop} (h : Res L P) (hk : ∀ x s, P x s → Res (blockK i1 (andThen (blockK i2 (some (x, s))) E)) Q) : Res (blockK i1 (andThen (blockK i2 L) E)) Q := by
  obtain ⟨x, s, rfl, p⟩ := h; exact hk x s p
theorem scan_facts (p q : EE → Bool) (hq : ∀ x, q x = !p x) (d : Array EE) {i j : Nat} (hi : 1 ≤ i) (hij : i ≤ j + 1) : i ≤ Go.Sort.scanUp p d j i ∧ Go.Sort.scanUp p d j i ≤ j + 1 ∧ Go.Sort.scanDown q d (Go.Sort.scanUp p d j i) j ≤ j ∧ Go.Sort.scanUp p d j i ≤ Go.Sort.scanDown q d (Go.Sort.scanUp p d j i) j + 1 ∧ (¬ Go.Sort.scanUp p d j i > Go.Sort.scanDown q d (Go.Sort.scanUp p d j i) j → Go.Sort.scanUp p d j i < Go.Sort.scanDown q d (Go.Sort.scanUp p d j i) j) := by
  obtain ⟨g1, g2, g3, g4, g5, g6, g7⟩ := Go.Sort.round_facts p q hq d (i - 1) (j + 1) i j (by omega) hij (fun t h1 h2 => by omega) (fun t h1 h2 => by omega)
  exact ⟨g1, g2, g3, g4, fun h => (g7 h).2.2⟩
def plI (T : Nat × Array EE) (a kb N : Nat) (cap : Option Nat) (h0 : Heap) (k : Nat) (s : St) : Prop := ∃ (x : Env 178) (h : Heap) (d : Array EE) (i j : Nat), s = ⟨x.l, h, []⟩ ∧ j + 1 ≤ i + k ∧ (x.v 0 = .slr kb 0 N 3 cap ∧ x.v 4 = cF) ∧ x.v 1 = D.int a ∧ x.v 12 = D.int i ∧ x.v 13 = D.int j ∧ a < i ∧ i ≤ j + 1 ∧ j < N ∧ d.size = N ∧ SD kb d h0 h ∧ Go.Sort.partLoop lt a i j d = T
def plQ (T : Nat × Array EE) (a kb N : Nat) (cap : Option Nat) (h0 : Heap) (s : St) : Prop := ∃ (x : Env 178) (h : Heap), s = ⟨x.l, h, []⟩ ∧ (x.v 0 = .slr kb 0 N 3 cap ∧ x.v 4 = cF) ∧ x.v 1 = D.int a ∧ x.v 13 = D.int T.1 ∧ T.1 < N ∧ T.2.size = N ∧ SD kb T.2 h0 h
set_option maxHeartbeats 16000000 in
theorem pl_round (T : Nat × Array EE) (a kb N : Nat) (hN : N ≤ 10000000) (haN : a < N) (cap : Option Nat) (h0 : Heap) : ∀ n, N + 20 ≤ n → ∀ k s, plI T a kb N cap h0 k s → Res (k114l4.ev ⟨pg, 178, none⟩ (rc pg n) s) (Rnd (plI T a kb N cap h0) (fun x s => x = .exit 4 ∧ plQ T a kb N cap h0 s) k) := by
  rintro n hn k s ⟨x, h, d, i, j, rfl, hk, ⟨v0, vc⟩, v1, vi, vj, hai, hij, hjN, hd, sd, hT⟩
  obtain ⟨g1, g2, g3, g4, g5⟩ := scan_facts (fun x => lt x d[a]!) (fun x => !lt x d[a]!) (fun _ => rfl) d (show 1 ≤ i by omega) hij
  rw [Go.Sort.partLoop_eq] at hT
  obtain ⟨i2, hi2⟩ : ∃ t, t = Go.Sort.scanUp (fun x => lt x d[a]!) d j i := ⟨_, rfl⟩
  rw [← hi2] at g1 g2 g3 g4 g5 hT
  obtain ⟨j2, hj2⟩ : ∃ t, t = Go.Sort.scanDown (fun x => !lt x d[a]!) d i2 j := ⟨_, rfl⟩
  rw [← hj2] at g3 g4 g5 hT
  simp [k114l4, ev_loop]
  refine Res.qc (lp_rule 3 (pvI i2 d a j kb N x h0) _ (pv_round i2 d a j kb N hN (by omega) hd hjN cap x h0 v0 vc v1 vj) (j + 1 - i) n _ (by omega) ⟨x, h, i, rfl, by omega, fun _ _ _ => rfl, vi, by omega, sd, hi2.symm⟩) ?_
  rintro x1 s1 ⟨rfl, y, h1, rfl, sm1, yi, sd1⟩
  have y0 := (sm1 0 (by omega) (by omega)).trans v0
  have yc := (sm1 4 (by omega) (by omega)).trans vc
  have y1 := (sm1 1 (by omega) (by omega)).trans v1
  have yj := (sm1 13 (by omega) (by omega)).trans vj
  simp [ev_loop]
  refine Res.qc (lp_rule 3 (pwI j2 d a i2 kb N y h0) _ (pw_round j2 d a i2 kb N hN (by omega) hd (by omega) cap y h0 y0 yc y1 yi) (j + 1 - i2) n _ (by omega) ⟨y, h1, j, rfl, by omega, fun _ _ _ => rfl, yj, by omega, sd1, hj2.symm⟩) ?_
  rintro x2 s2 ⟨rfl, z, h2, rfl, sm2, zj, sd2⟩
  have z0 := (sm2 0 (by omega) (by omega)).trans y0
  have zc := (sm2 4 (by omega) (by omega)).trans yc
  have z1 := (sm2 1 (by omega) (by omega)).trans y1
  have zi := (sm2 12 (by omega) (by omega)).trans yi
  have g := sd2.g
  by_cases hc : i2 > j2
  · rw [if_pos hc] at hT
    have hc' : j2 < i2 := hc
    simp [zi, zj, hc']
    exact ⟨_, _, rfl, ⟨by simp [z0], by simp [zc]⟩, by simp [z1], by rw [← hT]; simp [zj], by rw [← hT]; show j2 < N; omega, by rw [← hT]; exact hd, by rw [← hT]; repeat' first | exact sd2 | refine SD.bump ?_ _⟩
  · rw [if_neg hc] at hT
    have hlt2 := g5 hc
    have hc' : ¬ j2 < i2 := hc
    have hiN : i2 < d.size := by omega
    have hjN2 : j2 < d.size := by omega
    obtain ⟨C, C1, C2, va, vb, hC, hl, hl1, hl2, f1, f2, e1, e2, p1, p2, c1, c2, y1', y2'⟩ := swp_facts hiN hjN2
    rw [← hC] at g
    have w1 : IntKind.i64.wrap ((i2 : Int) + 1) = (i2 : Int) + 1 := wrap_i64 (by omega) (by omega)
    have w2 : IntKind.i64.wrap ((j2 : Int) - 1) = ((j2 - 1 : Nat) : Int) := wn (by omega) (by omega)
    have l1 : i2 < N := by omega
    have l2 : j2 < N := by omega
    have l3 : i2 + 1 ≤ N := by omega
    have l4 : j2 + 1 ≤ N := by omega
    simp [z0, zi, zj, hc', w1, w2, D.cells, g, hl, hl1, f1, e2, f2, p1, p2, l1, l2]
    exact ⟨k - 1, by omega, _, _, _, i2 + 1, j2 - 1, rfl, by omega, ⟨by simp [z0], by simp [zc]⟩, by simp [z1], by simp, by simp, by omega, by omega, by omega, swp_size d i2 j2 hd, by repeat' first | exact sd2 | refine SD.bump ?_ _ | refine SD.two ?_ c1 c2, hT⟩
def qlI (T : Nat × Array EE) (a kb N : Nat) (cap : Option Nat) (h0 : Heap) (k : Nat) (s : St) : Prop := ∃ (x : Env 90) (h : Heap) (d : Array EE) (i j : Nat), s = ⟨x.l, h, []⟩ ∧ j + 1 ≤ i + k ∧ (x.v 0 = .slr kb 0 N 3 cap ∧ x.v 4 = cF) ∧ x.v 1 = D.int a ∧ x.v 11 = D.int i ∧ x.v 12 = D.int j ∧ a < i ∧ i ≤ j + 1 ∧ j < N ∧ d.size = N ∧ SD kb d h0 h ∧ Go.Sort.partEqLoop lt a i j d = T
def qlQ (T : Nat × Array EE) (a kb N : Nat) (cap : Option Nat) (h0 : Heap) (s : St) : Prop := ∃ (x : Env 90) (h : Heap), s = ⟨x.l, h, []⟩ ∧ (x.v 0 = .slr kb 0 N 3 cap ∧ x.v 4 = cF) ∧ x.v 1 = D.int a ∧ x.v 11 = D.int T.1 ∧ T.1 ≤ N ∧ T.2.size = N ∧ SD kb T.2 h0 h
set_option maxHeartbeats 16000000 in
theorem ql_round (T : Nat × Array EE) (a kb N : Nat) (hN : N ≤ 10000000) (haN : a < N) (cap : Option Nat) (h0 : Heap) : ∀ n, N + 20 ≤ n → ∀ k s, qlI T a kb N cap h0 k s → Res (k113l2.ev ⟨pg, 90, none⟩ (rc pg n) s) (Rnd (qlI T a kb N cap h0) (fun x s => x = .exit 0 ∧ qlQ T a kb N cap h0 s) k) := by
  rintro n hn k s ⟨x, h, d, i, j, rfl, hk, ⟨v0, vc⟩, v1, vi, vj, hai, hij, hjN, hd, sd, hT⟩
  obtain ⟨g1, g2, g3, g4, g5⟩ := scan_facts (fun x => !lt d[a]! x) (fun x => lt d[a]! x) (fun _ => by simp) d (show 1 ≤ i by omega) hij
  rw [Go.Sort.partEqLoop_eq] at hT
  obtain ⟨i2, hi2⟩ : ∃ t, t = Go.Sort.scanUp (fun x => !lt d[a]! x) d j i := ⟨_, rfl⟩
  rw [← hi2] at g1 g2 g3 g4 g5 hT
  obtain ⟨j2, hj2⟩ : ∃ t, t = Go.Sort.scanDown (fun x => lt d[a]! x) d i2 j := ⟨_, rfl⟩
  rw [← hj2] at g3 g4 g5 hT
  simp [k113l2, ev_loop]
  refine Res.qc (lp_rule 3 (quI i2 d a j kb N x h0) _ (qu_round i2 d a j kb N hN (by omega) hd hjN cap x h0 v0 vc v1 vj) (j + 1 - i) n _ (by omega) ⟨x, h, i, rfl, by omega, fun _ _ _ => rfl, vi, by omega, sd, hi2.symm⟩) ?_
  rintro x1 s1 ⟨rfl, y, h1, rfl, sm1, yi, sd1⟩
  have y0 := (sm1 0 (by omega) (by omega)).trans v0
  have yc := (sm1 4 (by omega) (by omega)).trans vc
  have y1 := (sm1 1 (by omega) (by omega)).trans v1
  have yj := (sm1 12 (by omega) (by omega)).trans vj
  simp [ev_loop]
  refine Res.qc (lp_rule 3 (qdI j2 d a i2 kb N y h0) _ (qd_round j2 d a i2 kb N hN (by omega) hd (by omega) cap y h0 y0 yc y1 yi) (j + 1 - i2) n _ (by omega) ⟨y, h1, j, rfl, by omega, fun _ _ _ => rfl, yj, by omega, sd1, hj2.symm⟩) ?_
  rintro x2 s2 ⟨rfl, z, h2, rfl, sm2, zj, sd2⟩
  have z0 := (sm2 0 (by omega) (by omega)).trans y0
  have zc := (sm2 4 (by omega) (by omega)).trans yc
  have z1 := (sm2 1 (by omega) (by omega)).trans y1
  have zi := (sm2 11 (by omega) (by omega)).trans yi
  have g := sd2.g
  by_cases hc : i2 > j2
  · rw [if_pos hc] at hT
    have hc' : j2 < i2 := hc
    simp [zi, zj, hc']
    exact ⟨_, _, rfl, ⟨by simp [z0], by simp [zc]⟩, by simp [z1], by rw [← hT]; simp [zi], by rw [← hT]; show i2 ≤ N; omega, by rw [← hT]; exact hd, by rw [← hT]; repeat' first | exact sd2 | refine SD.bump ?_ _⟩
  · rw [if_neg hc] at hT
    have hlt2 := g5 hc
    have hc' : ¬ j2 < i2 := hc
    have hiN : i2 < d.size := by omega
    have hjN2 : j2 < d.size := by omega
    obtain ⟨C, C1, C2, va, vb, hC, hl, hl1, hl2, f1, f2, e1, e2, p1, p2, c1, c2, y1', y2'⟩ := swp_facts hiN hjN2
    rw [← hC] at g
    have w1 : IntKind.i64.wrap ((i2 : Int) + 1) = (i2 : Int) + 1 := wrap_i64 (by omega) (by omega)
    have w2 : IntKind.i64.wrap ((j2 : Int) - 1) = ((j2 - 1 : Nat) : Int) := wn (by omega) (by omega)
    have l1 : i2 < N := by omega
    have l2 : j2 < N := by omega
    have l3 : i2 + 1 ≤ N := by omega
    have l4 : j2 + 1 ≤ N := by omega
    simp [z0, zi, zj, hc', w1, w2, D.cells, g, hl, hl1, f1, e2, f2, p1, p2, l1, l2]
    exact ⟨k - 1, by omega, _, _, _, i2 + 1, j2 - 1, rfl, by omega, ⟨by simp [z0], by simp [zc]⟩, by simp [z1], by simp, by simp, by omega, by omega, by omega, swp_size d i2 j2 hd, by repeat' first | exact sd2 | refine SD.bump ?_ _ | refine SD.two ?_ c1 c2, hT⟩
end Go.Proofs.YtlddgfkdicgbeaaGreatDoor
