/- The library's sort: the scans of the partitions. -/
import Derived.Test.YtlddgfkdicgbeaaGreatDoorKs0
namespace Go.Proofs.YtlddgfkdicgbeaaGreatDoor
open Go Go.Em
set_option maxRecDepth 100000
theorem scanUp_go {p : EE → Bool} {d : Array EE} {j i : Nat} (h : i ≤ j) (hp : p d[i]! = true) : Go.Sort.scanUp p d j i = Go.Sort.scanUp p d j (i + 1) := by
  rw [Go.Sort.scanUp, if_pos (by simp [h, hp])]
theorem scanUp_no {p : EE → Bool} {d : Array EE} {j i : Nat} (h : i ≤ j → p d[i]! = false) : Go.Sort.scanUp p d j i = i := by
  rw [Go.Sort.scanUp, if_neg (by simp; intro a; simpa using h a)]
theorem scanDown_go {p : EE → Bool} {d : Array EE} {j i : Nat} (h1 : 1 ≤ j) (h : i ≤ j) (hp : p d[j]! = true) : Go.Sort.scanDown p d i j = Go.Sort.scanDown p d i (j - 1) := by
  obtain ⟨m, rfl⟩ : ∃ m, j = m + 1 := ⟨j - 1, by omega⟩
  rw [Go.Sort.scanDown, if_pos (by simp [h, hp])]
  rfl
theorem scanDown_no {p : EE → Bool} {d : Array EE} {j i : Nat} (h : i ≤ j → p d[j]! = false) : Go.Sort.scanDown p d i j = j := by
  cases j with
  | zero => rfl
  | succ m => rw [Go.Sort.scanDown, if_neg (by simp; intro a; simpa using h a)]
def puI (T : Nat) (d : Array EE) (a j kb N : Nat) (x0 : Env 178) (h0 : Heap) (k : Nat) (s : St) : Prop := ∃ (x : Env 178) (h : Heap) (t : Nat), s = ⟨x.l, h, []⟩ ∧ t + k = j + 1 ∧ (∀ q, q < 14 → q ≠ 12 → x.v q = x0.v q) ∧ x.v 12 = D.int t ∧ t ≤ N ∧ SD kb d h0 h ∧ Go.Sort.scanUp (fun x => lt x d[a]!) d j t = T
def puQ (T : Nat) (d : Array EE) (kb : Nat) (x0 : Env 178) (h0 : Heap) (x : Ex) (s : St) : Prop := x = .exit 0 ∧ ∃ (x : Env 178) (h : Heap), s = ⟨x.l, h, []⟩ ∧ (∀ q, q < 14 → q ≠ 12 → x.v q = x0.v q) ∧ x.v 12 = D.int T ∧ SD kb d h0 h
set_option maxHeartbeats 8000000 in
theorem pu_round (T : Nat) (d : Array EE) (a j kb N : Nat) (hN : N ≤ 10000000) (haN : a < d.size) (hd : d.size = N) (hj : j < N) (cap : Option Nat) (x0 : Env 178) (h0 : Heap) (z0 : x0.v 0 = .slr kb 0 N 3 cap) (zc : x0.v 4 = cF) (z1 : x0.v 1 = D.int a) (z2 : x0.v 13 = D.int j) : ∀ n, 3 ≤ n → ∀ k s, puI T d a j kb N x0 h0 k s → Res (k114l0.ev ⟨pg, 178, none⟩ (rc pg n) s) (Rnd (puI T d a j kb N x0 h0) (puQ T d kb x0 h0) k) := by
  rintro n hn k s ⟨x, h, t, rfl, hk, sm, vt, htN, sd, hT⟩
  have g := sd.g
  have v0 := (sm 0 (by omega) (by omega)).trans z0
  have vc := (sm 4 (by omega) (by omega)).trans zc
  have v1 := (sm 1 (by omega) (by omega)).trans z1
  have vo := (sm 13 (by omega) (by omega)).trans z2
  have ne : ∀ {q : Nat}, q < 14 → ∀ t, 14 ≤ t → (t = q) = False := fun hq t ht => by simp; omega
  by_cases hc : t ≤ j
  · have htS : t < d.size := by omega
    have ht1 : t < N := by omega
    have ht2 : t + 1 ≤ N := by omega
    have ha1 : a < N := by omega
    have ha2 : a + 1 ≤ N := by omega
    have w1 : IntKind.i64.wrap ((t : Int) + 1) = ((t : Int) + 1) := wrap_i64 (by omega) (by omega)
    obtain ⟨C, hC⟩ : ∃ C, C = eCs d := ⟨_, rfl⟩
    obtain ⟨vt', f1, e1, y1⟩ := get_fact htS hC
    obtain ⟨va, f2, e2, y2⟩ := get_fact haN hC
    rw [← hC] at g
    cases hlt : lt vt' va with
    | true =>
      obtain ⟨zr, r, rr⟩ := lss_c (n := n) hn hlt
      rw [scanUp_go hc (by simp [y1, y2, hlt])] at hT
      simp [k114l0, v0, vc, v1, vo, vt, hc, w1, g, e1, f1, e2, f2, ht1, ha1, r, rr]
      exact ⟨k - 1, by omega, _, _, t + 1, rfl, by omega, fun q hq hq' => by simp [ne hq, Ne.symm hq', sm q hq hq'], by simp, by omega, by repeat' first | exact sd | refine SD.bump ?_ _, hT⟩
    | false =>
      obtain ⟨zr, r, rr⟩ := lss_c (n := n) hn hlt
      rw [scanUp_no (fun _ => by simp [y1, y2, hlt])] at hT
      subst hT
      simp [k114l0, v0, vc, v1, vo, vt, hc, g, e1, f1, e2, f2, ht1, ha1, r, rr]
      exact ⟨rfl, _, _, rfl, fun q hq hq' => by simp [ne hq, sm q hq hq'], by simp [vt], by repeat' first | exact sd | refine SD.bump ?_ _⟩
  · rw [scanUp_no (fun h => absurd h hc)] at hT
    subst hT
    simp [k114l0, vo, vt, hc]
    exact ⟨rfl, _, _, rfl, fun q hq hq' => by simp [ne hq, sm q hq hq'], by simp [vt], by repeat' first | exact sd | refine SD.bump ?_ _⟩
def pdI (T : Nat) (d : Array EE) (a i kb N : Nat) (x0 : Env 178) (h0 : Heap) (k : Nat) (s : St) : Prop := ∃ (x : Env 178) (h : Heap) (t : Nat), s = ⟨x.l, h, []⟩ ∧ t + 1 = i + k ∧ (∀ q, q < 14 → q ≠ 13 → x.v q = x0.v q) ∧ x.v 13 = D.int t ∧ t < N ∧ SD kb d h0 h ∧ Go.Sort.scanDown (fun x => !lt x d[a]!) d i t = T
def pdQ (T : Nat) (d : Array EE) (kb : Nat) (x0 : Env 178) (h0 : Heap) (x : Ex) (s : St) : Prop := x = .exit 2 ∧ ∃ (x : Env 178) (h : Heap), s = ⟨x.l, h, []⟩ ∧ (∀ q, q < 14 → q ≠ 13 → x.v q = x0.v q) ∧ x.v 13 = D.int T ∧ SD kb d h0 h
set_option maxHeartbeats 8000000 in
theorem pd_round (T : Nat) (d : Array EE) (a i kb N : Nat) (hN : N ≤ 10000000) (haN : a < d.size) (hd : d.size = N) (hi1 : 1 ≤ i) (cap : Option Nat) (x0 : Env 178) (h0 : Heap) (z0 : x0.v 0 = .slr kb 0 N 3 cap) (zc : x0.v 4 = cF) (z1 : x0.v 1 = D.int a) (z2 : x0.v 12 = D.int i) : ∀ n, 3 ≤ n → ∀ k s, pdI T d a i kb N x0 h0 k s → Res (k114l1.ev ⟨pg, 178, none⟩ (rc pg n) s) (Rnd (pdI T d a i kb N x0 h0) (pdQ T d kb x0 h0) k) := by
  rintro n hn k s ⟨x, h, t, rfl, hk, sm, vt, htN, sd, hT⟩
  have g := sd.g
  have v0 := (sm 0 (by omega) (by omega)).trans z0
  have vc := (sm 4 (by omega) (by omega)).trans zc
  have v1 := (sm 1 (by omega) (by omega)).trans z1
  have vo := (sm 12 (by omega) (by omega)).trans z2
  have ne : ∀ {q : Nat}, q < 14 → ∀ t, 14 ≤ t → (t = q) = False := fun hq t ht => by simp; omega
  by_cases hc : i ≤ t
  · have htS : t < d.size := by omega
    have ht1 : t < N := by omega
    have ht2 : t + 1 ≤ N := by omega
    have ha1 : a < N := by omega
    have ha2 : a + 1 ≤ N := by omega
    have w1 : IntKind.i64.wrap ((t : Int) - 1) = (((t - 1 : Nat) : Int)) := wn (by omega) (by omega)
    obtain ⟨C, hC⟩ : ∃ C, C = eCs d := ⟨_, rfl⟩
    obtain ⟨vt', f1, e1, y1⟩ := get_fact htS hC
    obtain ⟨va, f2, e2, y2⟩ := get_fact haN hC
    rw [← hC] at g
    cases hlt : lt vt' va with
    | true =>
      obtain ⟨zr, r, rr⟩ := lss_c (n := n) hn hlt
      rw [scanDown_no (fun _ => by simp [y1, y2, hlt])] at hT
      subst hT
      simp [k114l1, v0, vc, v1, vo, vt, hc, g, e1, f1, e2, f2, ht1, ha1, r, rr]
      exact ⟨rfl, _, _, rfl, fun q hq hq' => by simp [ne hq, sm q hq hq'], by simp [vt], by repeat' first | exact sd | refine SD.bump ?_ _⟩
    | false =>
      obtain ⟨zr, r, rr⟩ := lss_c (n := n) hn hlt
      rw [scanDown_go (show 1 ≤ t by omega) hc (by simp [y1, y2, hlt])] at hT
      simp [k114l1, v0, vc, v1, vo, vt, hc, w1, g, e1, f1, e2, f2, ht1, ha1, r, rr]
      exact ⟨k - 1, by omega, _, _, t - 1, rfl, by omega, fun q hq hq' => by simp [ne hq, Ne.symm hq', sm q hq hq'], by simp, by omega, by repeat' first | exact sd | refine SD.bump ?_ _, hT⟩
  · rw [scanDown_no (fun h => absurd h hc)] at hT
    subst hT
    simp [k114l1, vo, vt, hc]
    exact ⟨rfl, _, _, rfl, fun q hq hq' => by simp [ne hq, sm q hq hq'], by simp [vt], by repeat' first | exact sd | refine SD.bump ?_ _⟩
def pvI (T : Nat) (d : Array EE) (a j kb N : Nat) (x0 : Env 178) (h0 : Heap) (k : Nat) (s : St) : Prop := ∃ (x : Env 178) (h : Heap) (t : Nat), s = ⟨x.l, h, []⟩ ∧ t + k = j + 1 ∧ (∀ q, q < 14 → q ≠ 12 → x.v q = x0.v q) ∧ x.v 12 = D.int t ∧ t ≤ N ∧ SD kb d h0 h ∧ Go.Sort.scanUp (fun x => lt x d[a]!) d j t = T
def pvQ (T : Nat) (d : Array EE) (kb : Nat) (x0 : Env 178) (h0 : Heap) (x : Ex) (s : St) : Prop := x = .exit 6 ∧ ∃ (x : Env 178) (h : Heap), s = ⟨x.l, h, []⟩ ∧ (∀ q, q < 14 → q ≠ 12 → x.v q = x0.v q) ∧ x.v 12 = D.int T ∧ SD kb d h0 h
set_option maxHeartbeats 8000000 in
theorem pv_round (T : Nat) (d : Array EE) (a j kb N : Nat) (hN : N ≤ 10000000) (haN : a < d.size) (hd : d.size = N) (hj : j < N) (cap : Option Nat) (x0 : Env 178) (h0 : Heap) (z0 : x0.v 0 = .slr kb 0 N 3 cap) (zc : x0.v 4 = cF) (z1 : x0.v 1 = D.int a) (z2 : x0.v 13 = D.int j) : ∀ n, 3 ≤ n → ∀ k s, pvI T d a j kb N x0 h0 k s → Res (k114l2.ev ⟨pg, 178, none⟩ (rc pg n) s) (Rnd (pvI T d a j kb N x0 h0) (pvQ T d kb x0 h0) k) := by
  rintro n hn k s ⟨x, h, t, rfl, hk, sm, vt, htN, sd, hT⟩
  have g := sd.g
  have v0 := (sm 0 (by omega) (by omega)).trans z0
  have vc := (sm 4 (by omega) (by omega)).trans zc
  have v1 := (sm 1 (by omega) (by omega)).trans z1
  have vo := (sm 13 (by omega) (by omega)).trans z2
  have ne : ∀ {q : Nat}, q < 14 → ∀ t, 14 ≤ t → (t = q) = False := fun hq t ht => by simp; omega
  by_cases hc : t ≤ j
  · have htS : t < d.size := by omega
    have ht1 : t < N := by omega
    have ht2 : t + 1 ≤ N := by omega
    have ha1 : a < N := by omega
    have ha2 : a + 1 ≤ N := by omega
    have w1 : IntKind.i64.wrap ((t : Int) + 1) = ((t : Int) + 1) := wrap_i64 (by omega) (by omega)
    obtain ⟨C, hC⟩ : ∃ C, C = eCs d := ⟨_, rfl⟩
    obtain ⟨vt', f1, e1, y1⟩ := get_fact htS hC
    obtain ⟨va, f2, e2, y2⟩ := get_fact haN hC
    rw [← hC] at g
    cases hlt : lt vt' va with
    | true =>
      obtain ⟨zr, r, rr⟩ := lss_c (n := n) hn hlt
      rw [scanUp_go hc (by simp [y1, y2, hlt])] at hT
      simp [k114l2, v0, vc, v1, vo, vt, hc, w1, g, e1, f1, e2, f2, ht1, ha1, r, rr]
      exact ⟨k - 1, by omega, _, _, t + 1, rfl, by omega, fun q hq hq' => by simp [ne hq, Ne.symm hq', sm q hq hq'], by simp, by omega, by repeat' first | exact sd | refine SD.bump ?_ _, hT⟩
    | false =>
      obtain ⟨zr, r, rr⟩ := lss_c (n := n) hn hlt
      rw [scanUp_no (fun _ => by simp [y1, y2, hlt])] at hT
      subst hT
      simp [k114l2, v0, vc, v1, vo, vt, hc, g, e1, f1, e2, f2, ht1, ha1, r, rr]
      exact ⟨rfl, _, _, rfl, fun q hq hq' => by simp [ne hq, sm q hq hq'], by simp [vt], by repeat' first | exact sd | refine SD.bump ?_ _⟩
  · rw [scanUp_no (fun h => absurd h hc)] at hT
    subst hT
    simp [k114l2, vo, vt, hc]
    exact ⟨rfl, _, _, rfl, fun q hq hq' => by simp [ne hq, sm q hq hq'], by simp [vt], by repeat' first | exact sd | refine SD.bump ?_ _⟩
def pwI (T : Nat) (d : Array EE) (a i kb N : Nat) (x0 : Env 178) (h0 : Heap) (k : Nat) (s : St) : Prop := ∃ (x : Env 178) (h : Heap) (t : Nat), s = ⟨x.l, h, []⟩ ∧ t + 1 = i + k ∧ (∀ q, q < 14 → q ≠ 13 → x.v q = x0.v q) ∧ x.v 13 = D.int t ∧ t < N ∧ SD kb d h0 h ∧ Go.Sort.scanDown (fun x => !lt x d[a]!) d i t = T
def pwQ (T : Nat) (d : Array EE) (kb : Nat) (x0 : Env 178) (h0 : Heap) (x : Ex) (s : St) : Prop := x = .exit 8 ∧ ∃ (x : Env 178) (h : Heap), s = ⟨x.l, h, []⟩ ∧ (∀ q, q < 14 → q ≠ 13 → x.v q = x0.v q) ∧ x.v 13 = D.int T ∧ SD kb d h0 h
set_option maxHeartbeats 8000000 in
theorem pw_round (T : Nat) (d : Array EE) (a i kb N : Nat) (hN : N ≤ 10000000) (haN : a < d.size) (hd : d.size = N) (hi1 : 1 ≤ i) (cap : Option Nat) (x0 : Env 178) (h0 : Heap) (z0 : x0.v 0 = .slr kb 0 N 3 cap) (zc : x0.v 4 = cF) (z1 : x0.v 1 = D.int a) (z2 : x0.v 12 = D.int i) : ∀ n, 3 ≤ n → ∀ k s, pwI T d a i kb N x0 h0 k s → Res (k114l3.ev ⟨pg, 178, none⟩ (rc pg n) s) (Rnd (pwI T d a i kb N x0 h0) (pwQ T d kb x0 h0) k) := by
  rintro n hn k s ⟨x, h, t, rfl, hk, sm, vt, htN, sd, hT⟩
  have g := sd.g
  have v0 := (sm 0 (by omega) (by omega)).trans z0
  have vc := (sm 4 (by omega) (by omega)).trans zc
  have v1 := (sm 1 (by omega) (by omega)).trans z1
  have vo := (sm 12 (by omega) (by omega)).trans z2
  have ne : ∀ {q : Nat}, q < 14 → ∀ t, 14 ≤ t → (t = q) = False := fun hq t ht => by simp; omega
  by_cases hc : i ≤ t
  · have htS : t < d.size := by omega
    have ht1 : t < N := by omega
    have ht2 : t + 1 ≤ N := by omega
    have ha1 : a < N := by omega
    have ha2 : a + 1 ≤ N := by omega
    have w1 : IntKind.i64.wrap ((t : Int) - 1) = (((t - 1 : Nat) : Int)) := wn (by omega) (by omega)
    obtain ⟨C, hC⟩ : ∃ C, C = eCs d := ⟨_, rfl⟩
    obtain ⟨vt', f1, e1, y1⟩ := get_fact htS hC
    obtain ⟨va, f2, e2, y2⟩ := get_fact haN hC
    rw [← hC] at g
    cases hlt : lt vt' va with
    | true =>
      obtain ⟨zr, r, rr⟩ := lss_c (n := n) hn hlt
      rw [scanDown_no (fun _ => by simp [y1, y2, hlt])] at hT
      subst hT
      simp [k114l3, v0, vc, v1, vo, vt, hc, g, e1, f1, e2, f2, ht1, ha1, r, rr]
      exact ⟨rfl, _, _, rfl, fun q hq hq' => by simp [ne hq, sm q hq hq'], by simp [vt], by repeat' first | exact sd | refine SD.bump ?_ _⟩
    | false =>
      obtain ⟨zr, r, rr⟩ := lss_c (n := n) hn hlt
      rw [scanDown_go (show 1 ≤ t by omega) hc (by simp [y1, y2, hlt])] at hT
      simp [k114l3, v0, vc, v1, vo, vt, hc, w1, g, e1, f1, e2, f2, ht1, ha1, r, rr]
      exact ⟨k - 1, by omega, _, _, t - 1, rfl, by omega, fun q hq hq' => by simp [ne hq, Ne.symm hq', sm q hq hq'], by simp, by omega, by repeat' first | exact sd | refine SD.bump ?_ _, hT⟩
  · rw [scanDown_no (fun h => absurd h hc)] at hT
    subst hT
    simp [k114l3, vo, vt, hc]
    exact ⟨rfl, _, _, rfl, fun q hq hq' => by simp [ne hq, sm q hq hq'], by simp [vt], by repeat' first | exact sd | refine SD.bump ?_ _⟩
def quI (T : Nat) (d : Array EE) (a j kb N : Nat) (x0 : Env 90) (h0 : Heap) (k : Nat) (s : St) : Prop := ∃ (x : Env 90) (h : Heap) (t : Nat), s = ⟨x.l, h, []⟩ ∧ t + k = j + 1 ∧ (∀ q, q < 13 → q ≠ 11 → x.v q = x0.v q) ∧ x.v 11 = D.int t ∧ t ≤ N ∧ SD kb d h0 h ∧ Go.Sort.scanUp (fun x => !lt d[a]! x) d j t = T
def quQ (T : Nat) (d : Array EE) (kb : Nat) (x0 : Env 90) (h0 : Heap) (x : Ex) (s : St) : Prop := x = .exit 2 ∧ ∃ (x : Env 90) (h : Heap), s = ⟨x.l, h, []⟩ ∧ (∀ q, q < 13 → q ≠ 11 → x.v q = x0.v q) ∧ x.v 11 = D.int T ∧ SD kb d h0 h
set_option maxHeartbeats 8000000 in
theorem qu_round (T : Nat) (d : Array EE) (a j kb N : Nat) (hN : N ≤ 10000000) (haN : a < d.size) (hd : d.size = N) (hj : j < N) (cap : Option Nat) (x0 : Env 90) (h0 : Heap) (z0 : x0.v 0 = .slr kb 0 N 3 cap) (zc : x0.v 4 = cF) (z1 : x0.v 1 = D.int a) (z2 : x0.v 12 = D.int j) : ∀ n, 3 ≤ n → ∀ k s, quI T d a j kb N x0 h0 k s → Res (k113l0.ev ⟨pg, 90, none⟩ (rc pg n) s) (Rnd (quI T d a j kb N x0 h0) (quQ T d kb x0 h0) k) := by
  rintro n hn k s ⟨x, h, t, rfl, hk, sm, vt, htN, sd, hT⟩
  have g := sd.g
  have v0 := (sm 0 (by omega) (by omega)).trans z0
  have vc := (sm 4 (by omega) (by omega)).trans zc
  have v1 := (sm 1 (by omega) (by omega)).trans z1
  have vo := (sm 12 (by omega) (by omega)).trans z2
  have ne : ∀ {q : Nat}, q < 13 → ∀ t, 13 ≤ t → (t = q) = False := fun hq t ht => by simp; omega
  by_cases hc : t ≤ j
  · have htS : t < d.size := by omega
    have ht1 : t < N := by omega
    have ht2 : t + 1 ≤ N := by omega
    have ha1 : a < N := by omega
    have ha2 : a + 1 ≤ N := by omega
    have w1 : IntKind.i64.wrap ((t : Int) + 1) = ((t : Int) + 1) := wrap_i64 (by omega) (by omega)
    obtain ⟨C, hC⟩ : ∃ C, C = eCs d := ⟨_, rfl⟩
    obtain ⟨vt', f1, e1, y1⟩ := get_fact htS hC
    obtain ⟨va, f2, e2, y2⟩ := get_fact haN hC
    rw [← hC] at g
    cases hlt : lt va vt' with
    | true =>
      obtain ⟨zr, r, rr⟩ := lss_c (n := n) hn hlt
      rw [scanUp_no (fun _ => by simp [y1, y2, hlt])] at hT
      subst hT
      simp [k113l0, v0, vc, v1, vo, vt, hc, g, e1, f1, e2, f2, ht1, ha1, r, rr]
      exact ⟨rfl, _, _, rfl, fun q hq hq' => by simp [ne hq, sm q hq hq'], by simp [vt], by repeat' first | exact sd | refine SD.bump ?_ _⟩
    | false =>
      obtain ⟨zr, r, rr⟩ := lss_c (n := n) hn hlt
      rw [scanUp_go hc (by simp [y1, y2, hlt])] at hT
      simp [k113l0, v0, vc, v1, vo, vt, hc, w1, g, e1, f1, e2, f2, ht1, ha1, r, rr]
      exact ⟨k - 1, by omega, _, _, t + 1, rfl, by omega, fun q hq hq' => by simp [ne hq, Ne.symm hq', sm q hq hq'], by simp, by omega, by repeat' first | exact sd | refine SD.bump ?_ _, hT⟩
  · rw [scanUp_no (fun h => absurd h hc)] at hT
    subst hT
    simp [k113l0, vo, vt, hc]
    exact ⟨rfl, _, _, rfl, fun q hq hq' => by simp [ne hq, sm q hq hq'], by simp [vt], by repeat' first | exact sd | refine SD.bump ?_ _⟩
def qdI (T : Nat) (d : Array EE) (a i kb N : Nat) (x0 : Env 90) (h0 : Heap) (k : Nat) (s : St) : Prop := ∃ (x : Env 90) (h : Heap) (t : Nat), s = ⟨x.l, h, []⟩ ∧ t + 1 = i + k ∧ (∀ q, q < 13 → q ≠ 12 → x.v q = x0.v q) ∧ x.v 12 = D.int t ∧ t < N ∧ SD kb d h0 h ∧ Go.Sort.scanDown (fun x => lt d[a]! x) d i t = T
def qdQ (T : Nat) (d : Array EE) (kb : Nat) (x0 : Env 90) (h0 : Heap) (x : Ex) (s : St) : Prop := x = .exit 4 ∧ ∃ (x : Env 90) (h : Heap), s = ⟨x.l, h, []⟩ ∧ (∀ q, q < 13 → q ≠ 12 → x.v q = x0.v q) ∧ x.v 12 = D.int T ∧ SD kb d h0 h
set_option maxHeartbeats 8000000 in
theorem qd_round (T : Nat) (d : Array EE) (a i kb N : Nat) (hN : N ≤ 10000000) (haN : a < d.size) (hd : d.size = N) (hi1 : 1 ≤ i) (cap : Option Nat) (x0 : Env 90) (h0 : Heap) (z0 : x0.v 0 = .slr kb 0 N 3 cap) (zc : x0.v 4 = cF) (z1 : x0.v 1 = D.int a) (z2 : x0.v 11 = D.int i) : ∀ n, 3 ≤ n → ∀ k s, qdI T d a i kb N x0 h0 k s → Res (k113l1.ev ⟨pg, 90, none⟩ (rc pg n) s) (Rnd (qdI T d a i kb N x0 h0) (qdQ T d kb x0 h0) k) := by
  rintro n hn k s ⟨x, h, t, rfl, hk, sm, vt, htN, sd, hT⟩
  have g := sd.g
  have v0 := (sm 0 (by omega) (by omega)).trans z0
  have vc := (sm 4 (by omega) (by omega)).trans zc
  have v1 := (sm 1 (by omega) (by omega)).trans z1
  have vo := (sm 11 (by omega) (by omega)).trans z2
  have ne : ∀ {q : Nat}, q < 13 → ∀ t, 13 ≤ t → (t = q) = False := fun hq t ht => by simp; omega
  by_cases hc : i ≤ t
  · have htS : t < d.size := by omega
    have ht1 : t < N := by omega
    have ht2 : t + 1 ≤ N := by omega
    have ha1 : a < N := by omega
    have ha2 : a + 1 ≤ N := by omega
    have w1 : IntKind.i64.wrap ((t : Int) - 1) = (((t - 1 : Nat) : Int)) := wn (by omega) (by omega)
    obtain ⟨C, hC⟩ : ∃ C, C = eCs d := ⟨_, rfl⟩
    obtain ⟨vt', f1, e1, y1⟩ := get_fact htS hC
    obtain ⟨va, f2, e2, y2⟩ := get_fact haN hC
    rw [← hC] at g
    cases hlt : lt va vt' with
    | true =>
      obtain ⟨zr, r, rr⟩ := lss_c (n := n) hn hlt
      rw [scanDown_go (show 1 ≤ t by omega) hc (by simp [y1, y2, hlt])] at hT
      simp [k113l1, v0, vc, v1, vo, vt, hc, w1, g, e1, f1, e2, f2, ht1, ha1, r, rr]
      exact ⟨k - 1, by omega, _, _, t - 1, rfl, by omega, fun q hq hq' => by simp [ne hq, Ne.symm hq', sm q hq hq'], by simp, by omega, by repeat' first | exact sd | refine SD.bump ?_ _, hT⟩
    | false =>
      obtain ⟨zr, r, rr⟩ := lss_c (n := n) hn hlt
      rw [scanDown_no (fun _ => by simp [y1, y2, hlt])] at hT
      subst hT
      simp [k113l1, v0, vc, v1, vo, vt, hc, g, e1, f1, e2, f2, ht1, ha1, r, rr]
      exact ⟨rfl, _, _, rfl, fun q hq hq' => by simp [ne hq, sm q hq hq'], by simp [vt], by repeat' first | exact sd | refine SD.bump ?_ _⟩
  · rw [scanDown_no (fun h => absurd h hc)] at hT
    subst hT
    simp [k113l1, vo, vt, hc]
    exact ⟨rfl, _, _, rfl, fun q hq hq' => by simp [ne hq, sm q hq hq'], by simp [vt], by repeat' first | exact sd | refine SD.bump ?_ _⟩
end Go.Proofs.YtlddgfkdicgbeaaGreatDoor
/- The library's sort: the partitions. -/
namespace Go.Proofs.YtlddgfkdicgbeaaGreatDoor
open Go Go.Em
set_option maxRecDepth 100000
theorem Res.qc {L : Option (Ex × St)} {i1 i2 : Nat} {E : St → Option (Ex × St)} {P Q : Ex → St → Prop} (h : Res L P) (hk : ∀ x s, P x s → Res (blockK i1 (andThen (blockK i2 (some (x, s))) E)) Q) : Res (blockK i1 (andThen (blockK i2 L) E)) Q := by
  obtain ⟨x, s, rfl, p⟩ := h; exact hk x s p
theorem scan_facts (p q : EE → Bool) (hq : ∀ x, q x = !p x) (d : Array EE) {i j : Nat} (hi : 1 ≤ i) (hij : i ≤ j + 1) : i ≤ Go.Sort.scanUp p d j i ∧ Go.Sort.scanUp p d j i ≤ j + 1 ∧ Go.Sort.scanDown q d (Go.Sort.scanUp p d j i) j ≤ j ∧ Go.Sort.scanUp p d j i ≤ Go.Sort.scanDown q d (Go.Sort.scanUp p d j i) j + 1 ∧ (¬ Go.Sort.scanUp p d j i > Go.Sort.scanDown q d (Go.Sort.scanUp p d j i) j → Go.Sort.scanUp p d j i < Go.Sort.scanDown q d (Go.Sort.scanUp p d j i) j) := by
  obtain ⟨g1, g2, g3, g4, g5, g6, g7⟩ := Go.Sort.round_facts p q hq d (i - 1) (j + 1) i j (by omega) hij (fun t h1 h2 => by omega) (fun t h1 h2 => by omega)
  exact ⟨g1, g2, g3, g4, fun h => (g7 h).2.2⟩
def plI (T : Nat × Array EE) (a kb N : Nat) (cap : Option Nat) (h0 : Heap) (k : Nat) (s : St) : Prop := ∃ (x : Env 178) (h : Heap) (d : Array EE) (i j : Nat), s = ⟨x.l, h, []⟩ ∧ j + 1 ≤ i + k ∧ (x.v 0 = .slr kb 0 N 3 cap ∧ x.v 4 = cF) ∧ x.v 1 = D.int a ∧ x.v 12 = D.int i ∧ x.v 13 = D.int j ∧ a < i ∧ i ≤ j + 1 ∧ j < N ∧ d.size = N ∧ SD kb d h0 h ∧ Go.Sort.partLoop lt a i j d = T
def plQ (T : Nat × Array EE) (a kb N : Nat) (cap : Option Nat) (h0 : Heap) (s : St) : Prop := ∃ (x : Env 178) (h : Heap), s = ⟨x.l, h, []⟩ ∧ (x.v 0 = .slr kb 0 N 3 cap ∧ x.v 4 = cF) ∧ x.v 1 = D.int a ∧ x.v 13 = D.int T.1 ∧ T.1 < N ∧ T.2.size = N ∧ SD kb T.2 h0 h
set_option maxHeartbeats 16000000 in
theorem pl_round (T : Nat × Array EE) (a kb N : Nat) (hN : N ≤ 10000000) (haN : a < N) (cap : Option Nat) (h0 : Heap) : ∀ n, N + 20 ≤ n → ∀ k s, plI T a kb N cap h0 k s → Res (k114l4.ev ⟨pg, 178, none⟩ (rc pg n) s) (Rnd (plI T a kb N cap h0) (fun x s => x = .exit 4 ∧ plQ T a kb N cap h0 s) k) := by
  rintro n hn k s ⟨x, h, d, i, j, rfl, hk, ⟨v0, vc⟩, v1, vi, vj, hai, hij, hjN, hd, sd, hT⟩
  obtain ⟨g1, g2, g3, g4, g5⟩ := scan_facts (fun x => lt x d[a]!) (fun x => !lt x d[a]!) (fun _ => rfl) d (show 1 ≤ i by omega) hij
  rw [Go.Sort.partLoop_eq] at hT
  obtain ⟨i2, hi2⟩ : ∃ t, t = Go.Sort.scanUp (fun x => lt x d[a]!) d j i := ⟨_, rfl⟩
  rw [← hi2] at g1 g2 g3 g4 g5 hT
  obtain ⟨j2, hj2⟩ : ∃ t, t = Go.Sort.scanDown (fun x => !lt x d[a]!) d i2 j := ⟨_, rfl⟩
  rw [← hj2] at g3 g4 g5 hT
  simp [k114l4, ev_loop]
  refine Res.qc (lp_rule 3 (pvI i2 d a j kb N x h0) _ (pv_round i2 d a j kb N hN (by omega) hd hjN cap x h0 v0 vc v1 vj) (j + 1 - i) n _ (by omega) ⟨x, h, i, rfl, by omega, fun _ _ _ => rfl, vi, by omega, sd, hi2.symm⟩) ?_
  rintro x1 s1 ⟨rfl, y, h1, rfl, sm1, yi, sd1⟩
  have y0 := (sm1 0 (by omega) (by omega)).trans v0
  have yc := (sm1 4 (by omega) (by omega)).trans vc
  have y1 := (sm1 1 (by omega) (by omega)).trans v1
  have yj := (sm1 13 (by omega) (by omega)).trans vj
  simp [ev_loop]
  refine Res.qc (lp_rule 3 (pwI j2 d a i2 kb N y h0) _ (pw_round j2 d a i2 kb N hN (by omega) hd (by omega) cap y h0 y0 yc y1 yi) (j + 1 - i2) n _ (by omega) ⟨y, h1, j, rfl, by omega, fun _ _ _ => rfl, yj, by omega, sd1, hj2.symm⟩) ?_
  rintro x2 s2 ⟨rfl, z, h2, rfl, sm2, zj, sd2⟩
  have z0 := (sm2 0 (by omega) (by omega)).trans y0
  have zc := (sm2 4 (by omega) (by omega)).trans yc
  have z1 := (sm2 1 (by omega) (by omega)).trans y1
  have zi := (sm2 12 (by omega) (by omega)).trans yi
  have g := sd2.g
  by_cases hc : i2 > j2
  · rw [if_pos hc] at hT
    have hc' : j2 < i2 := hc
    simp [zi, zj, hc']
    exact ⟨_, _, rfl, ⟨by simp [z0], by simp [zc]⟩, by simp [z1], by rw [← hT]; simp [zj], by rw [← hT]; show j2 < N; omega, by rw [← hT]; exact hd, by rw [← hT]; repeat' first | exact sd2 | refine SD.bump ?_ _⟩
  · rw [if_neg hc] at hT
    have hlt2 := g5 hc
    have hc' : ¬ j2 < i2 := hc
    have hiN : i2 < d.size := by omega
    have hjN2 : j2 < d.size := by omega
    obtain ⟨C, C1, C2, va, vb, hC, hl, hl1, hl2, f1, f2, e1, e2, p1, p2, c1, c2, y1', y2'⟩ := swp_facts hiN hjN2
    rw [← hC] at g
    have w1 : IntKind.i64.wrap ((i2 : Int) + 1) = (i2 : Int) + 1 := wrap_i64 (by omega) (by omega)
    have w2 : IntKind.i64.wrap ((j2 : Int) - 1) = ((j2 - 1 : Nat) : Int) := wn (by omega) (by omega)
    have l1 : i2 < N := by omega
    have l2 : j2 < N := by omega
    have l3 : i2 + 1 ≤ N := by omega
    have l4 : j2 + 1 ≤ N := by omega
    simp [z0, zi, zj, hc', w1, w2, D.cells, g, hl, hl1, f1, e2, f2, p1, p2, l1, l2]
    exact ⟨k - 1, by omega, _, _, _, i2 + 1, j2 - 1, rfl, by omega, ⟨by simp [z0], by simp [zc]⟩, by simp [z1], by simp, by simp, by omega, by omega, by omega, swp_size d i2 j2 hd, by repeat' first | exact sd2 | refine SD.bump ?_ _ | refine SD.two ?_ c1 c2, hT⟩
def qlI (T : Nat × Array EE) (a kb N : Nat) (cap : Option Nat) (h0 : Heap) (k : Nat) (s : St) : Prop := ∃ (x : Env 90) (h : Heap) (d : Array EE) (i j : Nat), s = ⟨x.l, h, []⟩ ∧ j + 1 ≤ i + k ∧ (x.v 0 = .slr kb 0 N 3 cap ∧ x.v 4 = cF) ∧ x.v 1 = D.int a ∧ x.v 11 = D.int i ∧ x.v 12 = D.int j ∧ a < i ∧ i ≤ j + 1 ∧ j < N ∧ d.size = N ∧ SD kb d h0 h ∧ Go.Sort.partEqLoop lt a i j d = T
def qlQ (T : Nat × Array EE) (a kb N : Nat) (cap : Option Nat) (h0 : Heap) (s : St) : Prop := ∃ (x : Env 90) (h : Heap), s = ⟨x.l, h, []⟩ ∧ (x.v 0 = .slr kb 0 N 3 cap ∧ x.v 4 = cF) ∧ x.v 1 = D.int a ∧ x.v 11 = D.int T.1 ∧ T.1 ≤ N ∧ T.2.size = N ∧ SD kb T.2 h0 h
set_option maxHeartbeats 16000000 in
theorem ql_round (T : Nat × Array EE) (a kb N : Nat) (hN : N ≤ 10000000) (haN : a < N) (cap : Option Nat) (h0 : Heap) : ∀ n, N + 20 ≤ n → ∀ k s, qlI T a kb N cap h0 k s → Res (k113l2.ev ⟨pg, 90, none⟩ (rc pg n) s) (Rnd (qlI T a kb N cap h0) (fun x s => x = .exit 0 ∧ qlQ T a kb N cap h0 s) k) := by
  rintro n hn k s ⟨x, h, d, i, j, rfl, hk, ⟨v0, vc⟩, v1, vi, vj, hai, hij, hjN, hd, sd, hT⟩
  obtain ⟨g1, g2, g3, g4, g5⟩ := scan_facts (fun x => !lt d[a]! x) (fun x => lt d[a]! x) (fun _ => by simp) d (show 1 ≤ i by omega) hij
  rw [Go.Sort.partEqLoop_eq] at hT
  obtain ⟨i2, hi2⟩ : ∃ t, t = Go.Sort.scanUp (fun x => !lt d[a]! x) d j i := ⟨_, rfl⟩
  rw [← hi2] at g1 g2 g3 g4 g5 hT
  obtain ⟨j2, hj2⟩ : ∃ t, t = Go.Sort.scanDown (fun x => lt d[a]! x) d i2 j := ⟨_, rfl⟩
  rw [← hj2] at g3 g4 g5 hT
  simp [k113l2, ev_loop]
  refine Res.qc (lp_rule 3 (quI i2 d a j kb N x h0) _ (qu_round i2 d a j kb N hN (by omega) hd hjN cap x h0 v0 vc v1 vj) (j + 1 - i) n _ (by omega) ⟨x, h, i, rfl, by omega, fun _ _ _ => rfl, vi, by omega, sd, hi2.symm⟩) ?_
  rintro x1 s1 ⟨rfl, y, h1, rfl, sm1, yi, sd1⟩
  have y0 := (sm1 0 (by omega) (by omega)).trans v0
  have yc := (sm1 4 (by omega) (by omega)).trans vc
  have y1 := (sm1 1 (by omega) (by omega)).trans v1
  have yj := (sm1 12 (by omega) (by omega)).trans vj
  simp [ev_loop]
  refine Res.qc (lp_rule 3 (qdI j2 d a i2 kb N y h0) _ (qd_round j2 d a i2 kb N hN (by omega) hd (by omega) cap y h0 y0 yc y1 yi) (j + 1 - i2) n _ (by omega) ⟨y, h1, j, rfl, by omega, fun _ _ _ => rfl, yj, by omega, sd1, hj2.symm⟩) ?_
  rintro x2 s2 ⟨rfl, z, h2, rfl, sm2, zj, sd2⟩
  have z0 := (sm2 0 (by omega) (by omega)).trans y0
  have zc := (sm2 4 (by omega) (by omega)).trans yc
  have z1 := (sm2 1 (by omega) (by omega)).trans y1
  have zi := (sm2 11 (by omega) (by omega)).trans yi
  have g := sd2.g
  by_cases hc : i2 > j2
  · rw [if_pos hc] at hT
    have hc' : j2 < i2 := hc
    simp [zi, zj, hc']
    exact ⟨_, _, rfl, ⟨by simp [z0], by simp [zc]⟩, by simp [z1], by rw [← hT]; simp [zi], by rw [← hT]; show i2 ≤ N; omega, by rw [← hT]; exact hd, by rw [← hT]; repeat' first | exact sd2 | refine SD.bump ?_ _⟩
  · rw [if_neg hc] at hT
    have hlt2 := g5 hc
    have hc' : ¬ j2 < i2 := hc
    have hiN : i2 < d.size := by omega
    have hjN2 : j2 < d.size := by omega
    obtain ⟨C, C1, C2, va, vb, hC, hl, hl1, hl2, f1, f2, e1, e2, p1, p2, c1, c2, y1', y2'⟩ := swp_facts hiN hjN2
    rw [← hC] at g
    have w1 : IntKind.i64.wrap ((i2 : Int) + 1) = (i2 : Int) + 1 := wrap_i64 (by omega) (by omega)
    have w2 : IntKind.i64.wrap ((j2 : Int) - 1) = ((j2 - 1 : Nat) : Int) := wn (by omega) (by omega)
    have l1 : i2 < N := by omega
    have l2 : j2 < N := by omega
    have l3 : i2 + 1 ≤ N := by omega
    have l4 : j2 + 1 ≤ N := by omega
    simp [z0, zi, zj, hc', w1, w2, D.cells, g, hl, hl1, f1, e2, f2, p1, p2, l1, l2]
    exact ⟨k - 1, by omega, _, _, _, i2 + 1, j2 - 1, rfl, by omega, ⟨by simp [z0], by simp [zc]⟩, by simp [z1], by simp, by simp, by omega, by omega, by omega, swp_size d i2 j2 hd, by repeat' first | exact sd2 | refine SD.bump ?_ _ | refine SD.two ?_ c1 c2, hT⟩
end Go.Proofs.YtlddgfkdicgbeaaGreatDoor
/- The library's sort: the partitions as functions. -/
namespace Go.Proofs.YtlddgfkdicgbeaaGreatDoor
open Go Go.Em
set_option maxRecDepth 100000
theorem part_eq (d : Array EE) (a b pivot : Nat) {d1 : Array EE} (h1 : d1 = Go.Sort.swp d a pivot) {i2 j2 : Nat} (h2 : i2 = Go.Sort.scanUp (fun x => lt x d1[a]!) d1 (b - 1) (a + 1)) (h3 : j2 = Go.Sort.scanDown (fun x => !lt x d1[a]!) d1 i2 (b - 1)) :
    Go.Sort.partition lt d a b pivot = if i2 > j2 then (j2, true, Go.Sort.swp d1 j2 a) else ((Go.Sort.partLoop lt a (i2 + 1) (j2 - 1) (Go.Sort.swp d1 i2 j2)).1, false, Go.Sort.swp (Go.Sort.partLoop lt a (i2 + 1) (j2 - 1) (Go.Sort.swp d1 i2 j2)).2 (Go.Sort.partLoop lt a (i2 + 1) (j2 - 1) (Go.Sort.swp d1 i2 j2)).1 a) := by
  subst h1 h2 h3; rfl
theorem partE_eq (d : Array EE) (a b pivot : Nat) : Go.Sort.partitionEqual lt d a b pivot = Go.Sort.partEqLoop lt a (a + 1) (b - 1) (Go.Sort.swp d a pivot) := rfl
set_option maxHeartbeats 16000000 in
theorem part_sh {kb : Nat} {d : Array EE} {h : Heap} (hg : h.get kb = some (.cells 74 (eCs d))) (hk : kb < h.next) (hf : h.Fr) {N : Nat} (hd : d.size = N) (hN : N ≤ 10000000) (cap : Option Nat) {a b pivot : Nat} (hap : a ≤ pivot) (hpb : pivot < b) (hb : b ≤ N) {n : Nat} (hn : 2 * N + 60 ≤ n) {r : Nat × Bool × Array EE} (hr : Go.Sort.partition lt d a b pivot = r) :
    ∃ h', (rc pg n).fn 114 [.slr kb 0 N 3 cap, D.int a, D.int b, D.int pivot, cF] h = some (.ret (.tup [D.int r.1, D.bool r.2.1]), h') ∧ SD kb r.2.2 h h' ∧ r.2.2.size = N := by
  obtain ⟨m, rfl, e⟩ := fn_body (pg := pg) (f := 114) (args := [.slr kb 0 N 3 cap, D.int a, D.int b, D.int pivot, cF]) (h := h) (show 0 < n by omega) rfl rfl
  rw [e]
  have sd := SD.refl hg hk hf
  have g := sd.g
  have haN : a < d.size := by omega
  have hpN : pivot < d.size := by omega
  obtain ⟨C, C1, C2, va, vb, hC, hl, hl1, hl2, f1, f2, e1, e2, p1, p2, c1, c2, y1', y2'⟩ := swp_facts haN hpN
  rw [← hC] at g
  have l1 : a < N := by omega
  have l2 : pivot < N := by omega
  have l3 : a + 1 ≤ N := by omega
  have l4 : pivot + 1 ≤ N := by omega
  have w1 : IntKind.i64.wrap ((a : Int) + 1) = ((a + 1 : Nat) : Int) := wn (by omega) (by omega)
  have w2 : IntKind.i64.wrap ((b : Int) - 1) = ((b - 1 : Nat) : Int) := wn (by omega) (by omega)
  obtain ⟨d1, hd1⟩ : ∃ d1, d1 = Go.Sort.swp d a pivot := ⟨_, rfl⟩
  have hd1s : d1.size = N := by rw [hd1]; exact swp_size d a pivot hd
  rw [← hd1] at c2
  obtain ⟨i2, hi2⟩ : ∃ t, t = Go.Sort.scanUp (fun x => lt x d1[a]!) d1 (b - 1) (a + 1) := ⟨_, rfl⟩
  obtain ⟨j2, hj2⟩ : ∃ t, t = Go.Sort.scanDown (fun x => !lt x d1[a]!) d1 i2 (b - 1) := ⟨_, rfl⟩
  rw [part_eq d a b pivot hd1 hi2 hj2] at hr
  obtain ⟨g1, g2, g3, g4, g5⟩ := scan_facts (fun x => lt x d1[a]!) (fun x => !lt x d1[a]!) (fun _ => rfl) d1 (i := a + 1) (j := b - 1) (by omega) (by omega)
  rw [← hi2] at g1 g2 g3 g4 g5
  rw [← hj2] at g3 g4 g5
  obtain ⟨a1, ha1⟩ : ∃ a1, a1 = a + 1 := ⟨_, rfl⟩
  obtain ⟨b1, hb1⟩ : ∃ b1, b1 = b - 1 := ⟨_, rfl⟩
  rw [← ha1] at w1 hi2 g1
  rw [← hb1] at w2 hi2 hj2 g2 g3
  simp [k114, Env.v_ini, w1, w2, D.cells, g, hl, hl1, f1, e2, f2, p1, p2, l1, l2, ev_loop]
  refine Res.fin3 (lp_rule 3 (puI i2 d1 a b1 kb N _ h) _ (pu_round i2 d1 a b1 kb N hN (by omega) hd1s (by omega) cap _ h ?_ ?_ ?_ ?_) (b1 + 1 - a1) m _ (by omega) ⟨_, _, a1, rfl, by omega, fun _ _ _ => rfl, by simp, by omega, by repeat' first | exact sd | refine SD.bump ?_ _ | refine SD.two ?_ c1 c2, hi2.symm⟩) ?_
  · simp [Env.v_ini]
  · simp [Env.v_ini]
  · simp [Env.v_ini]
  · simp
  rintro x1 s1 ⟨rfl, y, h1, rfl, sm1, yi, sd1⟩
  have y0 := sm1 0 (by omega) (by omega)
  have yc := sm1 4 (by omega) (by omega)
  have y1 := sm1 1 (by omega) (by omega)
  have yj := sm1 13 (by omega) (by omega)
  simp [Env.v_ini] at y0 yc y1 yj
  simp [ev_loop]
  refine Res.fin3 (lp_rule 3 (pdI j2 d1 a i2 kb N y h) _ (pd_round j2 d1 a i2 kb N hN (by omega) hd1s (by omega) cap y h y0 yc y1 yi) (b1 + 1 - i2) m _ (by omega) ⟨y, h1, b1, rfl, by omega, fun _ _ _ => rfl, yj, by omega, sd1, hj2.symm⟩) ?_
  rintro x2 s2 ⟨rfl, z, h2, rfl, sm2, zj, sd2⟩
  have z0 := (sm2 0 (by omega) (by omega)).trans y0
  have zc := (sm2 4 (by omega) (by omega)).trans yc
  have z1 := (sm2 1 (by omega) (by omega)).trans y1
  have zi := (sm2 12 (by omega) (by omega)).trans yi
  have g2' := sd2.g
  have hj2N : j2 < d1.size := by omega
  have haN1 : a < d1.size := by omega
  have m1 : j2 < N := by omega
  have m2 : j2 + 1 ≤ N := by omega
  by_cases hc : i2 > j2
  · rw [if_pos hc] at hr
    have hc' : j2 < i2 := hc
    obtain ⟨C, C1, C2, va, vb, hC, hl, hl1, hl2, f1, f2, e1, e2, p1, p2, c1, c2, y1', y2'⟩ := swp_facts hj2N haN1
    rw [← hC] at g2'
    simp [z0, z1, zi, zj, hc', D.cells, g2', hl, hl1, f1, e2, f2, p1, p2, l1, m1]
    rw [← hr]
    refine ⟨_, ⟨by simp, rfl⟩, ?_, swp_size d1 j2 a hd1s⟩
    repeat' first | exact sd2 | refine SD.bump ?_ _ | refine SD.two ?_ c1 c2
  · rw [if_neg hc] at hr
    have hlt2 := g5 hc
    have hc' : ¬ j2 < i2 := hc
    have hi2N : i2 < d1.size := by omega
    have m3 : i2 < N := by omega
    have m4 : i2 + 1 ≤ N := by omega
    have w3 : IntKind.i64.wrap ((i2 : Int) + 1) = ((i2 + 1 : Nat) : Int) := wn (by omega) (by omega)
    have w4 : IntKind.i64.wrap ((j2 : Int) - 1) = ((j2 - 1 : Nat) : Int) := wn (by omega) (by omega)
    obtain ⟨i3, hi3⟩ : ∃ i3, i3 = i2 + 1 := ⟨_, rfl⟩
    obtain ⟨j3, hj3⟩ : ∃ j3, j3 = j2 - 1 := ⟨_, rfl⟩
    rw [← hi3] at w3 hr
    rw [← hj3] at w4 hr
    obtain ⟨C, C1, C2, va, vb, hC, hl, hl1, hl2, f1, f2, e1, e2, p1, p2, c1, c2, y1', y2'⟩ := swp_facts hi2N hj2N
    rw [← hC] at g2'
    obtain ⟨T, hT⟩ : ∃ T, Go.Sort.partLoop lt a i3 j3 (Go.Sort.swp d1 i2 j2) = T := ⟨_, rfl⟩
    rw [hT] at hr
    simp [z0, zi, zj, hc', w3, w4, D.cells, g2', hl, hl1, f1, e2, f2, p1, p2, m1, m3, ev_loop]
    refine Res.fin3 (lp_rule (N + 20) (plI T a kb N cap h) _ (pl_round T a kb N hN (by omega) cap h) (j3 + 1 - i3) m _ (by omega) ⟨_, _, _, i3, j3, rfl, by omega, ⟨by simp [z0], by simp [zc]⟩, by simp [z1], by simp, by simp, by omega, by omega, by omega, swp_size d1 i2 j2 hd1s, by repeat' first | exact sd2 | refine SD.bump ?_ _ | refine SD.two ?_ c1 c2, hT⟩) ?_
    rintro x3 s3 ⟨rfl, u, h3, rfl, ⟨u0, uc⟩, u1, uj, hTN, hTs, sd3⟩
    have g3' := sd3.g
    obtain ⟨j4, hj4⟩ : ∃ j4, T.1 = j4 := ⟨_, rfl⟩
    rw [hj4] at uj hTN hr
    have hj4N : j4 < T.2.size := by omega
    have haN4 : a < T.2.size := by omega
    have m5 : j4 + 1 ≤ N := by omega
    obtain ⟨C, C1, C2, va, vb, hC, hl, hl1, hl2, f1, f2, e1, e2, p1, p2, c1, c2, y1', y2'⟩ := swp_facts hj4N haN4
    rw [← hC] at g3'
    simp [u0, u1, uj, D.cells, g3', hl, hl1, f1, e2, f2, p1, p2, l1, hTN]
    rw [← hr]
    refine ⟨_, ⟨by simp, rfl⟩, ?_, swp_size T.2 j4 a hTs⟩
    repeat' first | exact sd3 | refine SD.bump ?_ _ | refine SD.two ?_ c1 c2
set_option maxHeartbeats 16000000 in
theorem partE_sh {kb : Nat} {d : Array EE} {h : Heap} (hg : h.get kb = some (.cells 74 (eCs d))) (hk : kb < h.next) (hf : h.Fr) {N : Nat} (hd : d.size = N) (hN : N ≤ 10000000) (cap : Option Nat) {a b pivot : Nat} (hap : a ≤ pivot) (hpb : pivot < b) (hb : b ≤ N) {n : Nat} (hn : 2 * N + 60 ≤ n) {r : Nat × Array EE} (hr : Go.Sort.partitionEqual lt d a b pivot = r) :
    ∃ h', (rc pg n).fn 113 [.slr kb 0 N 3 cap, D.int a, D.int b, D.int pivot, cF] h = some (.ret (D.int r.1), h') ∧ SD kb r.2 h h' ∧ r.2.size = N := by
  obtain ⟨m, rfl, e⟩ := fn_body (pg := pg) (f := 113) (args := [.slr kb 0 N 3 cap, D.int a, D.int b, D.int pivot, cF]) (h := h) (show 0 < n by omega) rfl rfl
  rw [e]
  have sd := SD.refl hg hk hf
  have g := sd.g
  have haN : a < d.size := by omega
  have hpN : pivot < d.size := by omega
  obtain ⟨C, C1, C2, va, vb, hC, hl, hl1, hl2, f1, f2, e1, e2, p1, p2, c1, c2, y1', y2'⟩ := swp_facts haN hpN
  rw [← hC] at g
  have l1 : a < N := by omega
  have l2 : pivot < N := by omega
  have l3 : a + 1 ≤ N := by omega
  have l4 : pivot + 1 ≤ N := by omega
  have w1 : IntKind.i64.wrap ((a : Int) + 1) = ((a + 1 : Nat) : Int) := wn (by omega) (by omega)
  have w2 : IntKind.i64.wrap ((b : Int) - 1) = ((b - 1 : Nat) : Int) := wn (by omega) (by omega)
  rw [partE_eq] at hr
  obtain ⟨a1, ha1⟩ : ∃ a1, a1 = a + 1 := ⟨_, rfl⟩
  obtain ⟨b1, hb1⟩ : ∃ b1, b1 = b - 1 := ⟨_, rfl⟩
  rw [← ha1] at w1 hr
  rw [← hb1] at w2 hr
  simp [k113, Env.v_ini, w1, w2, D.cells, g, hl, hl1, f1, e2, f2, p1, p2, l1, l2, ev_loop]
  refine Res.fin3 (lp_rule (N + 20) (qlI r a kb N cap h) _ (ql_round r a kb N hN (by omega) cap h) (b1 + 1 - a1) m _ (by omega) ⟨_, _, _, a1, b1, rfl, by omega, ⟨by simp [Env.v_ini], by simp [Env.v_ini]⟩, by simp [Env.v_ini], by simp, by simp, by omega, by omega, by omega, swp_size d a pivot hd, by repeat' first | exact sd | refine SD.bump ?_ _ | refine SD.two ?_ c1 c2, hr⟩) ?_
  rintro x3 s3 ⟨rfl, u, h3, rfl, ⟨u0, uc⟩, u1, ui, hTN, hTs, sd3⟩
  simp [ui]
  exact ⟨by repeat' first | exact sd3 | refine SD.bump ?_ _, hTs⟩
end Go.Proofs.YtlddgfkdicgbeaaGreatDoor
/- The library's sort: the partial insertion sort's inner loops. -/
namespace Go.Proofs.YtlddgfkdicgbeaaGreatDoor
open Go Go.Em
set_option maxRecDepth 100000
theorem ss_go {d : Array EE} {b i : Nat} (h : i < b) (hp : lt d[i]! d[i - 1]! = false) : Go.Sort.scanSorted lt d b i = Go.Sort.scanSorted lt d b (i + 1) := by
  rw [Go.Sort.scanSorted, if_pos (by simp [h, hp])]
theorem ss_no {d : Array EE} {b i : Nat} (h : i < b → lt d[i]! d[i - 1]! = true) : Go.Sort.scanSorted lt d b i = i := by
  rw [Go.Sort.scanSorted, if_neg (by simp; intro a; simpa using h a)]
theorem ss_le {d : Array EE} {b : Nat} : ∀ (k i : Nat), b ≤ i + k → i ≤ b → i ≤ Go.Sort.scanSorted lt d b i ∧ Go.Sort.scanSorted lt d b i ≤ b := by
  intro k
  induction k with
  | zero => intro i h1 h2; rw [ss_no (fun h => by omega)]; omega
  | succ k ih =>
    intro i h1 h2
    by_cases h : i < b
    · cases hp : lt d[i]! d[i - 1]! with
      | true => rw [ss_no (fun _ => hp)]; omega
      | false => rw [ss_go h hp]; have := ih (i + 1) (by omega) (by omega); omega
    · rw [ss_no (fun h' => by omega)]; omega
theorem sdn_eq (j : Nat) (d : Array EE) : Go.Sort.shiftDown lt (j + 1) d = if (!lt d[j + 1]! d[j]!) = true then d else Go.Sort.shiftDown lt j (Go.Sort.swp d (j + 1) j) := rfl
theorem sup_lt {b j : Nat} {d : Array EE} (h : j < b) : Go.Sort.shiftUp lt b j d = if (!lt d[j]! d[j - 1]!) = true then d else Go.Sort.shiftUp lt b (j + 1) (Go.Sort.swp d j (j - 1)) := by
  rw [Go.Sort.shiftUp, if_pos h]
theorem sup_ge {b j : Nat} {d : Array EE} (h : ¬ j < b) : Go.Sort.shiftUp lt b j d = d := by
  rw [Go.Sort.shiftUp, if_neg h]
/-! ### The scan of what is sorted -/
def ssI (T : Nat) (d : Array EE) (b kb _N : Nat) (x0 : Env 141) (h0 : Heap) (k : Nat) (s : St) : Prop := ∃ (x : Env 141) (h : Heap) (t : Nat), s = ⟨x.l, h, []⟩ ∧ b ≤ t + k ∧ (∀ q, q < 13 → q ≠ 9 → x.v q = x0.v q) ∧ x.v 9 = D.int t ∧ 1 ≤ t ∧ t ≤ b ∧ SD kb d h0 h ∧ Go.Sort.scanSorted lt d b t = T
def ssQ (T : Nat) (d : Array EE) (kb : Nat) (x0 : Env 141) (h0 : Heap) (x : Ex) (s : St) : Prop := x = .exit 2 ∧ ∃ (x : Env 141) (h : Heap), s = ⟨x.l, h, []⟩ ∧ (∀ q, q < 13 → q ≠ 9 → x.v q = x0.v q) ∧ x.v 9 = D.int T ∧ SD kb d h0 h
set_option maxHeartbeats 8000000 in
theorem qss_round (T : Nat) (d : Array EE) (b kb N : Nat) (hN : N ≤ 10000000) (hd : d.size = N) (hb : b ≤ N) (cap : Option Nat) (x0 : Env 141) (h0 : Heap) (z0 : x0.v 0 = .slr kb 0 N 3 cap) (zc : x0.v 3 = cF) (z2 : x0.v 2 = D.int b) : ∀ n, 3 ≤ n → ∀ k s, ssI T d b kb N x0 h0 k s → Res (k112l0.ev ⟨pg, 141, none⟩ (rc pg n) s) (Rnd (ssI T d b kb N x0 h0) (ssQ T d kb x0 h0) k) := by
  rintro n hn k s ⟨x, h, t, rfl, hk, sm, vt, ht1, htb, sd, hT⟩
  have g := sd.g
  have v0 := (sm 0 (by omega) (by omega)).trans z0
  have vc := (sm 3 (by omega) (by omega)).trans zc
  have v2 := (sm 2 (by omega) (by omega)).trans z2
  have ne : ∀ {q : Nat}, q < 13 → ∀ t, 13 ≤ t → (t = q) = False := fun hq t ht => by simp; omega
  by_cases hc : t < b
  · obtain ⟨u, hu⟩ : ∃ u, u = t - 1 := ⟨_, rfl⟩
    have htS : t < d.size := by omega
    have huS : u < d.size := by omega
    have l1 : t < N := by omega
    have l2 : t + 1 ≤ N := by omega
    have l3 : u < N := by omega
    have l4 : u + 1 ≤ N := by omega
    have w1 : IntKind.i64.wrap ((t : Int) + 1) = (t : Int) + 1 := wrap_i64 (by omega) (by omega)
    have w2 : IntKind.i64.wrap ((t : Int) - 1) = (u : Int) := wn (by omega) (by omega)
    obtain ⟨C, hC⟩ : ∃ C, C = eCs d := ⟨_, rfl⟩
    obtain ⟨va, f1, e1, y1⟩ := get_fact htS hC
    obtain ⟨vb, f2, e2, y2⟩ := get_fact huS hC
    rw [← hC] at g
    cases hlt : lt va vb with
    | true =>
      obtain ⟨zr, r, rr⟩ := lss_c (n := n) hn hlt
      rw [ss_no (fun _ => by rw [← hu, y1, y2]; exact hlt)] at hT
      subst hT
      simp [k112l0, v0, vc, v2, vt, hc, w2, g, e1, f1, e2, f2, l1, l3, r, rr]
      exact ⟨rfl, _, _, rfl, fun q hq hq' => by simp [ne hq, sm q hq hq'], by simp [vt], by repeat' first | exact sd | refine SD.bump ?_ _⟩
    | false =>
      obtain ⟨zr, r, rr⟩ := lss_c (n := n) hn hlt
      rw [ss_go hc (by rw [← hu, y1, y2]; exact hlt)] at hT
      simp [k112l0, v0, vc, v2, vt, hc, w1, w2, g, e1, f1, e2, f2, l1, l3, r, rr]
      exact ⟨k - 1, by omega, _, _, t + 1, rfl, by omega, fun q hq hq' => by simp [ne hq, Ne.symm hq', sm q hq hq'], by simp, by omega, by omega, by repeat' first | exact sd | refine SD.bump ?_ _, hT⟩
  · rw [ss_no (fun h => absurd h hc)] at hT
    subst hT
    simp [k112l0, v2, vt, hc]
    exact ⟨rfl, _, _, rfl, fun q hq hq' => by simp [ne hq, sm q hq hq'], by simp [vt], by repeat' first | exact sd | refine SD.bump ?_ _⟩
/-! ### The shifts -/
def shI (v _e : Nat) (P : Nat → Array EE → Array EE) (R : Nat → Nat → Prop) (T : Array EE) (kb N : Nat) (x0 : Env 141) (h0 : Heap) (k : Nat) (s : St) : Prop := ∃ (x : Env 141) (h : Heap) (d : Array EE) (t : Nat), s = ⟨x.l, h, []⟩ ∧ R t k ∧ (∀ q, q < 13 → q ≠ v → x.v q = x0.v q) ∧ x.v v = D.int t ∧ d.size = N ∧ SD kb d h0 h ∧ P t d = T
def shQ (v e : Nat) (T : Array EE) (kb N : Nat) (x0 : Env 141) (h0 : Heap) (x : Ex) (s : St) : Prop := x = .exit e ∧ ∃ (x : Env 141) (h : Heap), s = ⟨x.l, h, []⟩ ∧ (∀ q, q < 13 → q ≠ v → x.v q = x0.v q) ∧ T.size = N ∧ SD kb T h0 h
set_option maxHeartbeats 8000000 in
theorem sdn_round (T : Array EE) (kb N : Nat) (hN : N ≤ 10000000) (cap : Option Nat) (x0 : Env 141) (h0 : Heap) (z0 : x0.v 0 = .slr kb 0 N 3 cap) (zc : x0.v 3 = cF) : ∀ n, 3 ≤ n → ∀ k s, shI 11 4 (Go.Sort.shiftDown lt) (fun t k => t = k ∧ t < N) T kb N x0 h0 k s → Res (k112l1.ev ⟨pg, 141, none⟩ (rc pg n) s) (Rnd (shI 11 4 (Go.Sort.shiftDown lt) (fun t k => t = k ∧ t < N) T kb N x0 h0) (shQ 11 4 T kb N x0 h0) k) := by
  rintro n hn k s ⟨x, h, d, t, rfl, ⟨rfl, htN⟩, sm, vt, hd, sd, hT⟩
  have g := sd.g
  have v0 := (sm 0 (by omega) (by omega)).trans z0
  have vc := (sm 3 (by omega) (by omega)).trans zc
  have ne : ∀ {q : Nat}, q < 13 → ∀ t, 13 ≤ t → (t = q) = False := fun hq t ht => by simp; omega
  cases t with
  | zero =>
    subst hT
    simp [k112l1, vt]
    exact ⟨rfl, _, _, rfl, fun q hq hq' => by simp [ne hq, sm q hq hq'], hd, by show SD kb d h0 _; repeat' first | exact sd | refine SD.bump ?_ _⟩
  | succ u =>
    obtain ⟨t, ht⟩ : ∃ t, t = u + 1 := ⟨_, rfl⟩
    rw [sdn_eq, ← ht] at hT
    rw [← ht] at vt htN ⊢
    have hc : (1 : Int) ≤ (t : Int) := by omega
    have hc' : 1 ≤ t := by omega
    have htS : t < d.size := by omega
    have huS : u < d.size := by omega
    have l2 : t + 1 ≤ N := by omega
    have l3 : u < N := by omega
    have l4 : u + 1 ≤ N := by omega
    have w2 : IntKind.i64.wrap ((t : Int) - 1) = (u : Int) := wn (by omega) (by omega)
    obtain ⟨C, C1, C2, va, vb, hC, hl, hl1, hl2, f1, f2, e1, e2, p1, p2, c1, c2, y1, y2⟩ := swp_facts htS huS
    rw [← hC] at g
    rw [y1, y2] at hT
    cases hlt : lt va vb with
    | true =>
      obtain ⟨zr, r, rr⟩ := lss_c (n := n) hn hlt
      rw [if_neg (by simp [hlt])] at hT
      simp [k112l1, v0, vc, vt, hc, w2, D.cells, g, hl, hl1, f1, e2, f2, p1, p2, htN, l3, dcore_v, r, rr]
      exact ⟨u, by omega, _, _, _, u, rfl, ⟨rfl, by omega⟩, fun q hq hq' => by simp [ne hq, Ne.symm hq', sm q hq hq'], by simp, swp_size d t u hd, by repeat' first | exact sd | refine SD.bump ?_ _ | refine SD.two ?_ c1 c2, hT⟩
    | false =>
      obtain ⟨zr, r, rr⟩ := lss_c (n := n) hn hlt
      rw [if_pos (by simp [hlt])] at hT
      subst hT
      simp [k112l1, v0, vc, vt, hc, w2, g, e1, f1, e2, f2, htN, l3, dcore_v, r, rr]
      exact ⟨rfl, _, _, rfl, fun q hq hq' => by simp [ne hq, sm q hq hq'], hd, by repeat' first | exact sd | refine SD.bump ?_ _⟩
set_option maxHeartbeats 8000000 in
theorem sup_round (T : Array EE) (b kb N : Nat) (hN : N ≤ 10000000) (hb : b ≤ N) (cap : Option Nat) (x0 : Env 141) (h0 : Heap) (z0 : x0.v 0 = .slr kb 0 N 3 cap) (zc : x0.v 3 = cF) (z2 : x0.v 2 = D.int b) : ∀ n, 3 ≤ n → ∀ k s, shI 12 6 (Go.Sort.shiftUp lt b) (fun t k => b ≤ t + k ∧ 1 ≤ t ∧ t ≤ b) T kb N x0 h0 k s → Res (k112l2.ev ⟨pg, 141, none⟩ (rc pg n) s) (Rnd (shI 12 6 (Go.Sort.shiftUp lt b) (fun t k => b ≤ t + k ∧ 1 ≤ t ∧ t ≤ b) T kb N x0 h0) (shQ 12 6 T kb N x0 h0) k) := by
  rintro n hn k s ⟨x, h, d, t, rfl, ⟨hk, ht1, htb⟩, sm, vt, hd, sd, hT⟩
  have g := sd.g
  have v0 := (sm 0 (by omega) (by omega)).trans z0
  have vc := (sm 3 (by omega) (by omega)).trans zc
  have v2 := (sm 2 (by omega) (by omega)).trans z2
  have ne : ∀ {q : Nat}, q < 13 → ∀ t, 13 ≤ t → (t = q) = False := fun hq t ht => by simp; omega
  by_cases hc : t < b
  · obtain ⟨u, hu⟩ : ∃ u, u = t - 1 := ⟨_, rfl⟩
    rw [sup_lt hc, ← hu] at hT
    have htS : t < d.size := by omega
    have huS : u < d.size := by omega
    have l1 : t < N := by omega
    have l2 : t + 1 ≤ N := by omega
    have l3 : u < N := by omega
    have l4 : u + 1 ≤ N := by omega
    have w1 : IntKind.i64.wrap ((t : Int) + 1) = (t : Int) + 1 := wrap_i64 (by omega) (by omega)
    have w2 : IntKind.i64.wrap ((t : Int) - 1) = (u : Int) := wn (by omega) (by omega)
    obtain ⟨C, C1, C2, va, vb, hC, hl, hl1, hl2, f1, f2, e1, e2, p1, p2, c1, c2, y1, y2⟩ := swp_facts htS huS
    rw [← hC] at g
    rw [y1, y2] at hT
    cases hlt : lt va vb with
    | true =>
      obtain ⟨zr, r, rr⟩ := lss_c (n := n) hn hlt
      rw [if_neg (by simp [hlt])] at hT
      simp [k112l2, v0, vc, v2, vt, hc, w1, w2, D.cells, g, hl, hl1, f1, e2, f2, p1, p2, l1, l3, dcore_v, r, rr]
      exact ⟨k - 1, by omega, _, _, _, t + 1, rfl, ⟨by omega, by omega, by omega⟩, fun q hq hq' => by simp [ne hq, Ne.symm hq', sm q hq hq'], by simp, swp_size d t u hd, by repeat' first | exact sd | refine SD.bump ?_ _ | refine SD.two ?_ c1 c2, hT⟩
    | false =>
      obtain ⟨zr, r, rr⟩ := lss_c (n := n) hn hlt
      rw [if_pos (by simp [hlt])] at hT
      subst hT
      simp [k112l2, v0, vc, v2, vt, hc, w2, g, e1, f1, e2, f2, l1, l3, dcore_v, r, rr]
      exact ⟨rfl, _, _, rfl, fun q hq hq' => by simp [ne hq, sm q hq hq'], hd, by repeat' first | exact sd | refine SD.bump ?_ _⟩
  · rw [sup_ge hc] at hT
    subst hT
    simp [k112l2, v2, vt, hc]
    exact ⟨rfl, _, _, rfl, fun q hq hq' => by simp [ne hq, sm q hq hq'], hd, by repeat' first | exact sd | refine SD.bump ?_ _⟩
end Go.Proofs.YtlddgfkdicgbeaaGreatDoor
/- The library's sort: the partial insertion sort. -/
namespace Go.Proofs.YtlddgfkdicgbeaaGreatDoor
open Go Go.Em
set_option maxRecDepth 100000
def k112t : Cd :=
  .seq (.region [⟨none, some 101, .inl (.mv (.s 2))⟩, ⟨none, some 102, .inl (.mv (.s 9))⟩, ⟨none, some 103, .inl (.bin .sub (.s 101) (.s 102))⟩, ⟨none, some 104, .inl (.bin .geq (.s 103) (.c (.int .i64 2)))⟩]) (.cond (.s 104) (.seq (.region [⟨none, some 105, .inl (.mv (.s 9))⟩, ⟨none, some 106, .inl (.bin .add (.s 105) (.c (.int .i64 1)))⟩, ⟨none, some 12, .inl (.mv (.s 106))⟩]) (.block 6 (.loop k112l2))) .skip)
def k112u : Cd :=
  .seq (.seq (.region [⟨none, some 62, .inl (.mv (.s 9))⟩, ⟨none, some 63, .inl (.mv (.s 1))⟩, ⟨none, some 64, .inl (.bin .sub (.s 62) (.s 63))⟩, ⟨none, some 65, .inl (.bin .geq (.s 64) (.c (.int .i64 2)))⟩]) (.cond (.s 65) (.seq (.region [⟨none, some 66, .inl (.mv (.s 9))⟩, ⟨none, some 67, .inl (.bin .sub (.s 66) (.c (.int .i64 1)))⟩, ⟨none, some 11, .inl (.mv (.s 67))⟩]) (.block 4 (.loop k112l1))) .skip)) k112t
theorem k112l3_eq : k112l3 = .seq (.seq (.region [⟨none, some 15, .inl (.mv (.s 10))⟩, ⟨none, some 16, .inl (.bin .lss (.s 15) (.c (.int .i64 5)))⟩]) (.cond (.s 16) .skip (.exit 0))) (.seq (.block 1 (.seq (.block 2 (.loop k112l0)) (.seq (.seq (.region [⟨none, some 39, .inl (.mv (.s 9))⟩, ⟨none, some 40, .inl (.mv (.s 2))⟩, ⟨none, some 41, .inl (.bin .eql (.s 39) (.s 40))⟩]) (.cond (.s 41) (.seq (.region [⟨none, some 8, .inl (.mv (.c (.bool true)))⟩]) .ret) .skip)) (.seq (.seq (.region [⟨none, some 42, .inl (.mv (.s 2))⟩, ⟨none, some 43, .inl (.mv (.s 1))⟩, ⟨none, some 44, .inl (.bin .sub (.s 42) (.s 43))⟩, ⟨none, some 45, .inl (.bin .lss (.s 44) (.c (.int .i64 50)))⟩]) (.cond (.s 45) (.seq (.region [⟨none, some 8, .inl (.mv (.c (.bool false)))⟩]) .ret) .skip)) (.seq (.draw [⟨⟨none, some 46, .inl (.mv (.s 0))⟩, some [], [], 0, false⟩, ⟨⟨none, some 47, .inl (.mv (.s 9))⟩, some [], [], 0, false⟩, ⟨⟨none, some 48, .inl (.mv (.s 0))⟩, some [], [], 0, false⟩, ⟨⟨none, some 49, .inl (.mv (.s 9))⟩, some [], [], 0, false⟩, ⟨⟨none, some 50, .inl (.bin .sub (.s 49) (.c (.int .i64 1)))⟩, some [], [], 8, false⟩, ⟨⟨none, some 51, .inl (.mv (.s 0))⟩, some [], [], 0, false⟩, ⟨⟨none, some 52, .inl (.mv (.s 9))⟩, some [], [], 0, false⟩, ⟨⟨none, some 53, .inl (.bin .sub (.s 52) (.c (.int .i64 1)))⟩, some [], [], 64, false⟩, ⟨⟨none, some 54, .inl (.ias 3 (.s 51) (.s 53))⟩, some [], [], 224, false⟩, ⟨⟨none, some 55, .inl (.ld true 3 (.s 54))⟩, some [], [], 480, false⟩, ⟨⟨none, some 56, .inl (.mv (.s 0))⟩, some [], [], 0, false⟩, ⟨⟨none, some 57, .inl (.mv (.s 9))⟩, some [], [], 0, false⟩, ⟨⟨none, some 58, .inl (.ias 3 (.s 56) (.s 57))⟩, some [], [], 3072, false⟩, ⟨⟨none, some 59, .inl (.ld true 3 (.s 58))⟩, some [], [], 7168, false⟩, ⟨⟨none, some 60, .inl (.ias 3 (.s 46) (.s 47))⟩, some [], [], 16355, false⟩, ⟨⟨none, none, .inl (.st 3 (.s 60) (.s 55))⟩, (some [.at 0]), [], 32739, false⟩, ⟨⟨none, some 61, .inl (.ias 3 (.s 48) (.s 50))⟩, some [], [], 65535, false⟩, ⟨⟨none, none, .inl (.st 3 (.s 61) (.s 59))⟩, (some [.at 0]), [], 131071, false⟩]) k112u))))) (.region [⟨none, some 17, .inl (.mv (.s 10))⟩, ⟨none, some 18, .inl (.bin .add (.s 17) (.c (.int .i64 1)))⟩, ⟨none, some 10, .inl (.mv (.s 18))⟩])) := rfl
theorem Res.qd {L : Option (Ex × St)} {i1 i2 : Nat} {P Q : Ex → St → Prop} (h : Res L P) (hk : ∀ x s, P x s → Res (blockK i1 (blockK i2 (some (x, s)))) Q) : Res (blockK i1 (blockK i2 L)) Q := by
  obtain ⟨x, s, rfl, p⟩ := h; exact hk x s p
theorem Res.qe {L : Option (Ex × St)} {i1 i2 : Nat} {E F : St → Option (Ex × St)} {P Q : Ex → St → Prop} (h : Res L P) (hk : ∀ x s, P x s → Res (andThen (blockK i1 (andThen (blockK i2 (some (x, s))) E)) F) Q) : Res (andThen (blockK i1 (andThen (blockK i2 L) E)) F) Q := by
  obtain ⟨x, s, rfl, p⟩ := h; exact hk x s p
def qTQ (T : Array EE) (kb N : Nat) (z : Env 141) (h0 : Heap) (x : Ex) (s : St) : Prop := x = .normal ∧ ∃ (y : Env 141) (h : Heap), s = ⟨y.l, h, []⟩ ∧ (∀ q, q < 11 → y.v q = z.v q) ∧ T.size = N ∧ SD kb T h0 h
set_option maxHeartbeats 8000000 in
theorem tailt {d : Array EE} {_a b i kb N : Nat} (hN : N ≤ 10000000) (hb : b ≤ N) (hi : 1 ≤ i) (hib : i ≤ b) (hd : d.size = N) {cap : Option Nat} {z : Env 141} {h0 h : Heap} (sd : SD kb d h0 h) (z0 : (z.v 0 = .slr kb 0 N 3 cap ∧ z.v 3 = cF)) (z2 : z.v 2 = D.int b) (z7 : z.v 9 = D.int i) {n : Nat} (hn : N + 20 ≤ n) : Res (blockK 1 (k112t.ev ⟨pg, 141, none⟩ (rc pg n) ⟨z.l, h, []⟩)) (qTQ (Go.Sort.fixUp lt b i d) kb N z h0) := by
  have ne : ∀ {q : Nat}, q < 11 → ∀ t, 11 ≤ t → (t = q) = False := fun hq t ht => by simp; omega
  obtain ⟨w, hw⟩ : ∃ w, w = b - i := ⟨_, rfl⟩
  obtain ⟨i1, hi1⟩ : ∃ i1, i1 = i + 1 := ⟨_, rfl⟩
  have w1 : IntKind.i64.wrap ((b : Int) - (i : Int)) = (w : Int) := wn (by omega) (by omega)
  have w2 : IntKind.i64.wrap ((i : Int) + 1) = (i1 : Int) := wn (by omega) (by omega)
  unfold Go.Sort.fixUp
  rw [← hw, ← hi1]
  by_cases hc : w ≥ 2
  · have hc' : (2 : Int) ≤ (w : Int) := by omega
    have hc2 : 2 ≤ w := hc
    rw [if_pos hc]
    obtain ⟨T, hT⟩ : ∃ T, T = Go.Sort.shiftUp lt b i1 d := ⟨_, rfl⟩
    rw [← hT]
    simp [k112t, z2, z7, w1, w2, hc', ev_loop]
    refine Res.qd (lp_rule 3 (shI 12 6 (Go.Sort.shiftUp lt b) (fun t k => b ≤ t + k ∧ 1 ≤ t ∧ t ≤ b) T kb N _ h0) _ (sup_round T b kb N hN hb cap _ h0 ?_ ?_ ?_) (b - i1) n _ (by omega) ⟨_, _, d, i1, rfl, ⟨by omega, by omega, by omega⟩, fun _ _ _ => rfl, by simp, hd, by repeat' first | exact sd | refine SD.bump ?_ _, hT.symm⟩) ?_
    · simp [z0]
    · simp [z0]
    · simp [z2]
    rintro x1 s1 ⟨rfl, y, h1, rfl, sm, hs, sd1⟩
    simp
    exact ⟨rfl, y, _, rfl, fun q hq => by rw [sm q (by omega) (by omega)]; simp [ne hq], hs, by repeat' first | exact sd1 | refine SD.bump ?_ _⟩
  · have hc' : ¬ ((2 : Int) ≤ (w : Int)) := by omega
    have hc2 : ¬ (2 ≤ w) := hc
    rw [if_neg hc]
    simp [k112t, z2, z7, w1, hc']
    exact ⟨rfl, _, _, rfl, fun q hq => by simp [ne hq], hd, by repeat' first | exact sd | refine SD.bump ?_ _⟩
set_option maxHeartbeats 8000000 in
theorem tailu {d : Array EE} {a b i kb N : Nat} (hN : N ≤ 10000000) (hb : b ≤ N) (hi : a < i) (hib : i ≤ b) (hd : d.size = N) {cap : Option Nat} {z : Env 141} {h0 h : Heap} (sd : SD kb d h0 h) (z0 : (z.v 0 = .slr kb 0 N 3 cap ∧ z.v 3 = cF)) (z1 : z.v 1 = D.int a) (z2 : z.v 2 = D.int b) (z7 : z.v 9 = D.int i) {n : Nat} (hn : N + 20 ≤ n) : Res (blockK 1 (k112u.ev ⟨pg, 141, none⟩ (rc pg n) ⟨z.l, h, []⟩)) (qTQ (Go.Sort.fixUp lt b i (Go.Sort.fixDown lt a i d)) kb N z h0) := by
  have ne : ∀ {q : Nat}, q < 11 → ∀ t, 11 ≤ t → (t = q) = False := fun hq t ht => by simp; omega
  obtain ⟨w, hw⟩ : ∃ w, w = i - a := ⟨_, rfl⟩
  obtain ⟨i1, hi1⟩ : ∃ i1, i1 = i - 1 := ⟨_, rfl⟩
  have w1 : IntKind.i64.wrap ((i : Int) - (a : Int)) = (w : Int) := wn (by omega) (by omega)
  have w2 : IntKind.i64.wrap ((i : Int) - 1) = (i1 : Int) := wn (by omega) (by omega)
  by_cases hc : w ≥ 2
  · have hc' : (2 : Int) ≤ (w : Int) := by omega
    have hc2 : 2 ≤ w := hc
    have he : Go.Sort.fixDown lt a i d = Go.Sort.shiftDown lt i1 d := by unfold Go.Sort.fixDown; rw [← hw, ← hi1, if_pos hc]
    rw [he]
    obtain ⟨T, hT⟩ : ∃ T, T = Go.Sort.shiftDown lt i1 d := ⟨_, rfl⟩
    rw [← hT]
    simp [k112u, z1, z7, w1, w2, hc', ev_loop]
    refine Res.qc (lp_rule 3 (shI 11 4 (Go.Sort.shiftDown lt) (fun t k => t = k ∧ t < N) T kb N _ h0) _ (sdn_round T kb N hN cap _ h0 ?_ ?_) i1 n _ (by omega) ⟨_, _, d, i1, rfl, ⟨rfl, by omega⟩, fun _ _ _ => rfl, by simp, hd, by repeat' first | exact sd | refine SD.bump ?_ _, hT.symm⟩) ?_
    · simp [z0]
    · simp [z0]
    rintro x1 s1 ⟨rfl, y, h1, rfl, sm, hs, sd1⟩
    simp
    have y0 := sm 0 (by omega) (by omega)
    have yc := sm 3 (by omega) (by omega)
    have y2 := sm 2 (by omega) (by omega)
    have y7 := sm 9 (by omega) (by omega)
    simp [z0, z2, z7] at y0 yc y2 y7
    refine (tailt hN hb (by omega) hib hs sd1 ⟨y0, yc⟩ y2 y7 hn (_a := a)).mono ?_
    rintro x2 s2 ⟨rfl, y', h2, rfl, sm2, hs2, sd2⟩
    exact ⟨rfl, y', _, rfl, fun q hq => by rw [sm2 q hq, sm q (by omega) (by omega)]; simp [ne hq], hs2, sd2⟩
  · have hc' : ¬ ((2 : Int) ≤ (w : Int)) := by omega
    have hc2 : ¬ (2 ≤ w) := hc
    have he : Go.Sort.fixDown lt a i d = d := by unfold Go.Sort.fixDown; rw [← hw, if_neg hc]
    rw [he]
    simp [k112u, z1, z7, w1, hc']
    refine (tailt hN hb (by omega) hib hd (kb := kb) (h0 := h0) (cap := cap) ?_ ?_ ?_ ?_ hn (_a := a)).mono ?_
    · repeat' first | exact sd | refine SD.bump ?_ _
    · simp [z0]
    · simp [z2]
    · simp [z7]
    rintro x2 s2 ⟨rfl, y', h2, rfl, sm2, hs2, sd2⟩
    exact ⟨rfl, y', _, rfl, fun q hq => by rw [sm2 q hq]; simp [ne hq], hs2, sd2⟩
def qPS (T : Array EE × Bool) (a b kb N : Nat) (cap : Option Nat) (h0 : Heap) (k : Nat) (s : St) : Prop := ∃ (x : Env 141) (h : Heap) (d : Array EE) (i st : Nat), s = ⟨x.l, h, []⟩ ∧ st + k = 5 ∧ (x.v 0 = .slr kb 0 N 3 cap ∧ x.v 3 = cF) ∧ x.v 1 = D.int a ∧ x.v 2 = D.int b ∧ x.v 9 = D.int i ∧ x.v 10 = D.int st ∧ a < i ∧ i ≤ b ∧ d.size = N ∧ SD kb d h0 h ∧ Go.Sort.partialIns lt a b k i d = T
def qPiQ (T : Array EE × Bool) (kb N : Nat) (h0 : Heap) (x : Ex) (s : St) : Prop := ∃ (y : Env 141) (h : Heap), s = ⟨y.l, h, []⟩ ∧ T.1.size = N ∧ SD kb T.1 h0 h ∧ ((x = .exit 0 ∧ T.2 = false) ∨ (x = .ret ∧ y.v 8 = D.bool T.2))
set_option maxHeartbeats 16000000 in
theorem pi_round (T : Array EE × Bool) (a b kb N : Nat) (hN : N ≤ 10000000) (hb : b ≤ N) (cap : Option Nat) (h0 : Heap) : ∀ n, N + 20 ≤ n → ∀ k s, qPS T a b kb N cap h0 k s → Res (k112l3.ev ⟨pg, 141, none⟩ (rc pg n) s) (Rnd (qPS T a b kb N cap h0) (qPiQ T kb N h0) k) := by
  rintro n hn k s ⟨x, h, d, i, st, rfl, hk, ⟨v0, vc⟩, v1, v2, v7, v8, hai, hib, hd, sd, hT⟩
  rw [k112l3_eq]
  cases k with
  | zero =>
    have hs : ¬ st < 5 := by omega
    have hs' : ¬ ((st : Int) < 5) := by omega
    simp [v8, hs']
    subst hT
    exact ⟨_, _, rfl, hd, by show SD kb d h0 _; repeat' first | exact sd | refine SD.bump ?_ _, .inl ⟨rfl, rfl⟩⟩
  | succ k =>
    have hs : st < 5 := by omega
    have hs' : ((st : Int) < 5) := by omega
    rw [Go.Sort.partialIns_succ] at hT
    obtain ⟨g1, g2⟩ := ss_le (d := d) (b := b) (b - i) i (by omega) hib
    obtain ⟨i2, hi2⟩ : ∃ t, t = Go.Sort.scanSorted lt d b i := ⟨_, rfl⟩
    rw [← hi2] at g1 g2 hT
    simp [v8, hs', ev_loop]
    refine Res.qe (lp_rule 3 (ssI i2 d b kb N _ h0) _ (qss_round i2 d b kb N hN hd hb cap _ h0 ?_ ?_ ?_) (b - i) n _ (by omega) ⟨_, _, i, rfl, by omega, fun _ _ _ => rfl, by simp [v7], by omega, hib, by repeat' first | exact sd | refine SD.bump ?_ _, hi2.symm⟩) ?_
    · simp [v0]
    · simp [vc]
    · simp [v2]
    rintro x1 s1 ⟨rfl, y, h1, rfl, sm, y7, sd1⟩
    have y0 := sm 0 (by omega) (by omega)
    have yc := sm 3 (by omega) (by omega)
    have y1 := sm 1 (by omega) (by omega)
    have y2 := sm 2 (by omega) (by omega)
    have y8 := sm 10 (by omega) (by omega)
    simp [v0, vc, v1, v2, v8] at y0 yc y1 y2 y8
    have g := sd1.g
    by_cases hc : i2 = b
    · rw [if_pos hc] at hT
      subst hT
      simp [y2, y7, hc]
      exact ⟨_, _, rfl, hd, by show SD kb d h0 _; repeat' first | exact sd1 | refine SD.bump ?_ _, .inr ⟨rfl, by simp⟩⟩
    · rw [if_neg hc] at hT
      have hcb : ((i2 : Int) == (b : Int)) = false := by simp; omega
      obtain ⟨w, hw⟩ : ∃ w, w = b - a := ⟨_, rfl⟩
      have w1 : IntKind.i64.wrap ((b : Int) - (a : Int)) = (w : Int) := wn (by omega) (by omega)
      rw [← hw] at hT
      by_cases hc5 : w < 50
      · rw [if_pos hc5] at hT
        subst hT
        have hc5' : (w : Int) < 50 := by omega
        simp [-beq_eq_false_iff_ne, y1, y2, y7, hcb, w1, hc5']
        exact ⟨_, _, rfl, hd, by show SD kb d h0 _; repeat' first | exact sd1 | refine SD.bump ?_ _, .inr ⟨rfl, by simp⟩⟩
      · rw [if_neg hc5] at hT
        have hc5' : ¬ ((w : Int) < 50) := by omega
        obtain ⟨u, hu⟩ : ∃ u, u = i2 - 1 := ⟨_, rfl⟩
        rw [← hu] at hT
        have w2 : IntKind.i64.wrap ((i2 : Int) - 1) = (u : Int) := wn (by omega) (by omega)
        have w3 : IntKind.i64.wrap ((st : Int) + 1) = ((st + 1 : Nat) : Int) := wn (by omega) (by omega)
        have htS : i2 < d.size := by omega
        have huS : u < d.size := by omega
        have l1 : i2 < N := by omega
        have l2 : i2 + 1 ≤ N := by omega
        have l3 : u < N := by omega
        have l4 : u + 1 ≤ N := by omega
        obtain ⟨C, C1, C2, va, vb, hC, hl, hl1, hl2, f1, f2, e1, e2, p1, p2, c1, c2, q1, q2⟩ := swp_facts htS huS
        rw [← hC] at g
        simp [-beq_eq_false_iff_ne, y0, y1, y2, y7, hcb, w1, w2, hc5', D.cells, g, hl, hl1, f1, e2, f2, p1, p2, l1, l3]
        refine Res.bind (tailu hN hb (show a < i2 by omega) g2 (swp_size d i2 u hd) (kb := kb) (h0 := h0) (cap := cap) ?_ ?_ ?_ ?_ ?_ hn) ?_
        · repeat' first | exact sd1 | refine SD.bump ?_ _ | refine SD.two ?_ c1 c2
        · exact ⟨by simp [y0], by simp [yc]⟩
        · simp [y1]
        · simp [y2]
        · simp [y7]
        rintro x2 s2 ⟨rfl, y', h2, rfl, sm2, hs2, sd2⟩
        have z0 := sm2 0 (by omega)
        have zc := sm2 3 (by omega)
        have z1 := sm2 1 (by omega)
        have z2 := sm2 2 (by omega)
        have z7 := sm2 9 (by omega)
        have z8 := sm2 10 (by omega)
        simp [y0, yc, y1, y2, y7, y8] at z0 zc z1 z2 z7 z8
        simp [z8, w3]
        exact ⟨_, _, _, i2, st + 1, rfl, by omega, ⟨by simp [z0], by simp [zc]⟩, by simp [z1], by simp [z2], by simp [z7], by simp, by omega, g2, hs2, by repeat' first | exact sd2 | refine SD.bump ?_ _, hT⟩
set_option maxHeartbeats 8000000 in
theorem pins_sh {kb : Nat} {d : Array EE} {h : Heap} (hg : h.get kb = some (.cells 74 (eCs d))) (hk : kb < h.next) (hf : h.Fr) {N : Nat} (hd : d.size = N) (hN : N ≤ 10000000) (cap : Option Nat) {a b : Nat} (hab : a < b) (hb : b ≤ N) {n : Nat} (hn : N + 60 ≤ n) :
    ∃ h', (rc pg n).fn 112 [.slr kb 0 N 3 cap, D.int a, D.int b, cF] h = some (.ret (D.bool (Go.Sort.partialInsertionSort lt d a b).2), h') ∧ SD kb (Go.Sort.partialInsertionSort lt d a b).1 h h' ∧ (Go.Sort.partialInsertionSort lt d a b).1.size = N := by
  obtain ⟨m, rfl, e⟩ := fn_body (pg := pg) (f := 112) (args := [.slr kb 0 N 3 cap, D.int a, D.int b, cF]) (h := h) (show 0 < n by omega) rfl rfl
  rw [e]
  have sd := SD.refl hg hk hf
  have w1 : IntKind.i64.wrap ((a : Int) + 1) = ((a + 1 : Nat) : Int) := wn (by omega) (by omega)
  obtain ⟨T, hT⟩ : ∃ T, Go.Sort.partialIns lt a b 5 (a + 1) d = T := ⟨_, rfl⟩
  have hT' : Go.Sort.partialInsertionSort lt d a b = T := hT
  rw [hT']
  obtain ⟨a1, ha1⟩ : ∃ a1, a1 = a + 1 := ⟨_, rfl⟩
  rw [← ha1] at w1 hT
  simp [k112, Env.v_ini, w1, ev_loop]
  refine Res.fin3 (lp_rule (N + 20) (qPS T a b kb N cap h) _ (pi_round T a b kb N hN hb cap h) 5 m _ (by omega) ⟨_, _, d, a1, 0, rfl, by omega, ⟨by simp [Env.v_ini], by simp [Env.v_ini]⟩, by simp [Env.v_ini], by simp [Env.v_ini], by simp, by simp, by omega, by omega, hd, by repeat' first | exact sd | refine SD.bump ?_ _, hT⟩) ?_
  rintro x s ⟨y, h', rfl, hs, sd', (⟨rfl, ht⟩ | ⟨rfl, ht⟩)⟩
  · simp [ht]
    exact ⟨by repeat' first | exact sd' | refine SD.bump ?_ _, hs⟩
  · simp [ht]
    exact ⟨by repeat' first | exact sd' | refine SD.bump ?_ _, hs⟩
end Go.Proofs.YtlddgfkdicgbeaaGreatDoor
