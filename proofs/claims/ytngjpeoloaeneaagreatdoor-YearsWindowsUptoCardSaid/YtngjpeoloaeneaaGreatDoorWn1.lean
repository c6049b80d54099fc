/- Means: a mean times its length is the sum; it lies between the least and the largest; that of two series lies between theirs. -/
import Derived.Test.YtngjpeoloaeneaaGreatDoorFm4
import Derived.Test.YtngjpeoloaeneaaGreatDoorFm7
import Derived.Test.YtngjpeoloaeneaaGreatDoorSane
namespace Go.Proofs.YtngjpeoloaeneaaGreatDoor
open Go Go.Em
set_option maxRecDepth 100000
theorem me_den {l : List Int} (h : OkS l) (h1 : 1 ≤ l.length) : 0 < (meP l).2 ∧ (meP l).2 ≤ 400 ∧ (meP l).1 * l.length = l.sum * (meP l).2 ∧ 0 ≤ (meP l).1 ∧ (meP l).1 ≤ 80000000 := by
  have hs := sum_bd h.2
  have h2 := h.1
  have ho := ok_den (ok_me h h1)
  have hd : (l.length : Int) ≠ 0 := by omega
  have gp := gc_pos (n := l.sum) hd
  have dv : ((gcF l.sum l.length : Nat) : Int) ∣ (l.length : Int) := Int.natCast_dvd_natCast.2 (Nat.gcd_dvd_right _ _)
  have du : ((gcF l.sum l.length : Nat) : Int) ∣ ((l.sum.natAbs : Nat) : Int) := Int.natCast_dvd_natCast.2 (Nat.gcd_dvd_left _ _)
  rw [show ((l.sum.natAbs : Nat) : Int) = l.sum by omega] at du
  have key : (meP l).1 * l.length = l.sum * (meP l).2 := by
    unfold meP mkN mkQ sgF
    simp only [if_neg (show ¬ (l.length : Int) < 0 by omega)]
    obtain ⟨g, hg⟩ : ∃ g, g = gcF l.sum l.length := ⟨_, rfl⟩
    rw [← hg] at gp dv du ⊢
    obtain ⟨a, ha⟩ := du
    obtain ⟨b, hb⟩ := dv
    rw [ha, hb, Int.mul_tdiv_cancel_left _ (by omega), Int.mul_tdiv_cancel_left _ (by omega)]
    rw [Int.mul_left_comm, Int.mul_assoc]
  have e2 : (meP l).2 ≤ 400 := by
    unfold meP mkQ sgF
    simp only [if_neg (show ¬ (l.length : Int) < 0 by omega)]
    have := Int.natAbs_tdiv_le_natAbs (l.length : Int) ((gcF l.sum l.length : Nat) : Int)
    omega
  have e1 : 0 ≤ (meP l).1 ∧ (meP l).1 ≤ 80000000 := by
    unfold meP mkN sgF
    simp only [if_neg (show ¬ (l.length : Int) < 0 by omega)]
    have := Int.natAbs_tdiv_le_natAbs l.sum ((gcF l.sum l.length : Nat) : Int)
    have := Int.tdiv_nonneg hs.1 (show 0 ≤ ((gcF l.sum l.length : Nat) : Int) by omega)
    omega
  exact ⟨ho, e2, key, e1.1, e1.2⟩
theorem me_lt {l m : List Int} (h : OkS l) (h1 : 1 ≤ l.length) (k : OkS m) (k1 : 1 ≤ m.length) : (meP l).1 * (meP m).2 < (meP m).1 * (meP l).2 ↔ l.sum * m.length < m.sum * l.length := by
  obtain ⟨p1, _, p3, _⟩ := me_den h h1
  obtain ⟨q1, _, q3, _⟩ := me_den k k1
  obtain ⟨a, ha⟩ : ∃ a, a = (meP l).1 := ⟨_, rfl⟩
  obtain ⟨b, hb⟩ : ∃ b, b = (meP l).2 := ⟨_, rfl⟩
  obtain ⟨c, hc⟩ : ∃ c, c = (meP m).1 := ⟨_, rfl⟩
  obtain ⟨d, hd⟩ : ∃ d, d = (meP m).2 := ⟨_, rfl⟩
  rw [← ha, ← hb] at p3
  rw [← hc, ← hd] at q3
  rw [← hb] at p1
  rw [← hd] at q1
  rw [← ha, ← hb, ← hc, ← hd]
  obtain ⟨s, hs⟩ : ∃ s, s = l.sum := ⟨_, rfl⟩
  obtain ⟨t, ht⟩ : ∃ t, t = m.sum := ⟨_, rfl⟩
  obtain ⟨x, hx⟩ : ∃ x : Int, x = l.length := ⟨_, rfl⟩
  obtain ⟨y, hy⟩ : ∃ y : Int, y = m.length := ⟨_, rfl⟩
  rw [← hs, ← hx] at p3
  rw [← ht, ← hy] at q3
  rw [← hs, ← ht, ← hx, ← hy]
  have hx0 : 0 < x := by omega
  have hy0 : 0 < y := by omega
  -- a x = s b, c y = t d; a d x y = s b d y ; c b x y = t d b x
  have i1 : a * d * (x * y) = s * y * (b * d) := by
    have : a * d * (x * y) = a * x * (d * y) := by simp only [Int.mul_left_comm, Int.mul_comm]
    rw [this, p3]; simp only [Int.mul_left_comm, Int.mul_comm]
  have i2 : c * b * (x * y) = t * x * (b * d) := by
    have : c * b * (x * y) = c * y * (b * x) := by simp only [Int.mul_left_comm, Int.mul_comm]
    rw [this, q3]; simp only [Int.mul_left_comm, Int.mul_comm]
  have hxy : 0 < x * y := Int.mul_pos hx0 hy0
  have hbd : 0 < b * d := Int.mul_pos p1 q1
  constructor
  · intro hlt
    have := Int.mul_lt_mul_of_pos_right hlt hxy
    rw [i1, i2] at this
    exact Int.lt_of_mul_lt_mul_right this (Int.le_of_lt hbd)
  · intro hlt
    have := Int.mul_lt_mul_of_pos_right hlt hbd
    rw [← i1, ← i2] at this
    exact Int.lt_of_mul_lt_mul_right this (Int.le_of_lt hxy)
theorem cm_me {l m : List Int} (h : OkS l) (h1 : 1 ≤ l.length) (k : OkS m) (k1 : 1 ≤ m.length) : cm (meP l) (meP m) = sgn (l.sum * m.length) (m.sum * l.length) := by
  rw [cm_eq (ok_me h h1) (ok_me k k1)]
  have a := me_lt h h1 k k1
  have b := me_lt k k1 h h1
  unfold sgn
  by_cases h1 : l.sum * m.length < m.sum * l.length
  · rw [if_pos (a.2 h1), if_pos h1]
  · rw [if_neg fun x => h1 (a.1 x), if_neg h1]
    by_cases h2 : m.sum * l.length < l.sum * m.length
    · rw [if_pos (b.2 h2), if_pos h2]
    · rw [if_neg fun x => h2 (b.1 x), if_neg h2]
theorem me_lo {l : List Int} (h : OkS l) (h1 : 1 ≤ l.length) {a : Int} (ha : ∀ t ∈ l, a ≤ t) : a * (meP l).2 ≤ (meP l).1 := by
  obtain ⟨p1, _, p3, _⟩ := me_den h h1
  have hs : ∀ l : List Int, (∀ t ∈ l, a ≤ t) → a * l.length ≤ l.sum := by
    intro l
    induction l with
    | nil => intro _; simp
    | cons b l ih =>
      intro hb
      have h1 := ih fun t ht => hb t (List.mem_cons_of_mem _ ht)
      have h2 := hb b List.mem_cons_self
      rw [List.sum_cons, List.length_cons, Int.natCast_add, Int.mul_add]
      omega
  have := Int.mul_le_mul_of_nonneg_right (hs l ha) (Int.le_of_lt p1)
  rw [← p3] at this
  have e : a * l.length * (meP l).2 = a * (meP l).2 * l.length := Int.mul_right_comm _ _ _
  rw [e] at this
  exact Int.le_of_mul_le_mul_right this (by omega)
theorem me_hi {l : List Int} (h : OkS l) (h1 : 1 ≤ l.length) {a : Int} (ha : ∀ t ∈ l, t ≤ a) : (meP l).1 ≤ a * (meP l).2 := by
  obtain ⟨p1, _, p3, _⟩ := me_den h h1
  have hs : ∀ l : List Int, (∀ t ∈ l, t ≤ a) → l.sum ≤ a * l.length := by
    intro l
    induction l with
    | nil => intro _; simp
    | cons b l ih =>
      intro hb
      have h1 := ih fun t ht => hb t (List.mem_cons_of_mem _ ht)
      have h2 := hb b List.mem_cons_self
      rw [List.sum_cons, List.length_cons, Int.natCast_add, Int.mul_add]
      omega
  have := Int.mul_le_mul_of_nonneg_right (hs l ha) (Int.le_of_lt p1)
  rw [← p3] at this
  have e : a * l.length * (meP l).2 = a * (meP l).2 * l.length := Int.mul_right_comm _ _ _
  rw [e] at this
  exact Int.le_of_mul_le_mul_right this (by omega)
theorem me_cat {l m : List Int} (h : OkS l) (h1 : 1 ≤ l.length) (k : OkS m) (k1 : 1 ≤ m.length) (c : OkS (l ++ m)) (hc : ¬ 0 < cm (meP l) (meP m)) : cm (meP l) (meP (l ++ m)) ≤ 0 ∧ cm (meP (l ++ m)) (meP m) ≤ 0 := by
  have c1 : 1 ≤ (l ++ m).length := by simp; omega
  have ls : (l ++ m).sum = l.sum + m.sum := by simp
  have ll : ((l ++ m).length : Int) = l.length + m.length := by simp
  rw [cm_me h h1 k k1] at hc
  rw [cm_me h h1 c c1, cm_me c c1 k k1, ls, ll]
  simp only [Int.mul_add, Int.add_mul]
  obtain ⟨a, ha⟩ : ∃ a, a = l.sum * m.length := ⟨_, rfl⟩
  obtain ⟨b, hb⟩ : ∃ b, b = m.sum * l.length := ⟨_, rfl⟩
  rw [← ha, ← hb] at hc ⊢
  have hab : a ≤ b := by
    unfold sgn at hc
    by_cases h1 : a < b
    · omega
    · rw [if_neg h1] at hc
      by_cases h2 : b < a
      · rw [if_pos h2] at hc; omega
      · omega
  unfold sgn
  constructor
  · split
    · omega
    · split <;> omega
  · split
    · omega
    · split <;> omega
theorem lt_trans3 {a b c d e f : Int} (hb : 0 < b) (hd : 0 < d) (hf : 0 < f) (h1 : a * d ≤ c * b) (h2 : c * f < e * d) : a * f < e * b := by
  have t1 : a * d * f ≤ c * b * f := Int.mul_le_mul_of_nonneg_right h1 (by omega)
  have t2 : c * f * b < e * d * b := Int.mul_lt_mul_of_pos_right h2 hb
  have t3 : a * f * d < e * b * d := by
    have x1 : a * f * d = a * d * f := by rw [Int.mul_assoc, Int.mul_assoc, Int.mul_comm f d]
    have x2 : e * b * d = e * d * b := by rw [Int.mul_assoc, Int.mul_assoc, Int.mul_comm b d]
    have x3 : c * b * f = c * f * b := by rw [Int.mul_assoc, Int.mul_assoc, Int.mul_comm b f]
    omega
  exact Int.lt_of_mul_lt_mul_right t3 (Int.le_of_lt hd)
theorem bst_strict {L : List Pr} (ok : ∀ i, i < L.length → okP (gt L i)) : ∀ n, n < L.length → ∀ j, j < bst L n → (gt L j).1 * (gt L (bst L n)).2 < (gt L (bst L n)).1 * (gt L j).2
  | 0, _, j, hj => by simp [bst] at hj
  | n + 1, hn, j, hj => by
    have ih := bst_strict ok n (by omega)
    have hm := bst_max ok n (by omega)
    have hb := bst_le L n
    have okn := ok (n + 1) hn
    have okb := ok (bst L n) (by omega)
    unfold bst at hj ⊢
    split at hj
    · next hc =>
      rw [if_pos hc]
      rw [cm_pos okn okb] at hc
      exact lt_trans3 (ok_den (ok j (by omega))) (ok_den okb) (ok_den okn) (hm j (by omega)) hc
    · next hc =>
      rw [if_neg hc]
      exact ih j hj
theorem pk_all {L : List Pr} (ok : ∀ i, i < L.length → okP (gt L i)) {i : Nat} (hi : i < L.length) : cm (gt L i) (gt L (bst L (L.length - 1))) ≤ 0 ∧ (cm (gt L i) (gt L (bst L (L.length - 1))) = 0 → bst L (L.length - 1) ≤ i) := by
  have hb := bst_le L (L.length - 1)
  have hm := bst_max ok (L.length - 1) (by omega) i (by omega)
  rw [cm_eq (ok i hi) (ok _ (by omega))]
  constructor
  · unfold sgn
    split
    · omega
    · split <;> omega
  · intro h0
    by_cases h : i < bst L (L.length - 1)
    · have := bst_strict ok (L.length - 1) (by omega) i h
      unfold sgn at h0
      rw [if_pos this] at h0
      omega
    · omega
end Go.Proofs.YtngjpeoloaeneaaGreatDoor
/- Windows: the law's loops. -/
namespace Go.Proofs.YtngjpeoloaeneaaGreatDoor
open Go Go.Em
set_option maxRecDepth 100000
structure WnK (l m : List Int) (W : Int) (L : List Pr) (b p : Nat) (B : Pr) (x : Env 212) (h : Heap) (i : Nat) : Prop where
  v0 : x.v 0 = intsD l
  v1 : x.v 1 = intsD m
  v2 : x.v 2 = D.int W
  v7 : x.v 7 = frsD L
  v9 : x.v 9 = D.int b
  v10 : x.v 10 = .ptr p 0
  v12 : x.v 12 = D.int i
  g : h.get p = some (.cells 36 (frC B))
  fr : h.Fr
theorem win_snoc {l : List Int} {i j : Nat} (h : i + j < l.length) : win l (j + 1) i = win l j i ++ [l[i + j]] := by
  unfold win
  rw [List.take_add_one, List.getElem?_drop, List.getElem?_eq_getElem h]; rfl
def InI (l m : List Int) (w : Nat) (L : List Pr) (b p : Nat) (B : Pr) (i : Nat) (k : Nat) (s : St) : Prop := ∃ (x : Env 212) (h : Heap) (j : Nat) (lo hi : Int), s = ⟨x.l, h, []⟩ ∧ j + k = w ∧ WnK l m w L b p B x h i ∧ x.v 13 = D.int (win l j i).sum ∧ x.v 14 = D.int lo ∧ x.v 15 = D.int hi ∧ x.v 16 = D.int ((i + j : Nat) : Int) ∧ (∀ t ∈ win l j i, lo ≤ t ∧ t ≤ hi) ∧ 0 ≤ lo ∧ lo ≤ 200000 ∧ 0 ≤ hi ∧ hi ≤ 200000
set_option maxHeartbeats 4000000 in
theorem in_round (l m : List Int) (ok : OkS l) (w : Nat) (L : List Pr) (b p : Nat) (B : Pr) (i : Nat) (hiw : i + w ≤ l.length) : ∀ n, 100 ≤ n → ∀ k s, InI l m w L b p B i k s → Res (k7l0.ev ⟨pg, 212, none⟩ (rc pg n) s) (Rnd (InI l m w L b p B i) (fun x s => x = .exit 2 ∧ InI l m w L b p B i 0 s) k) := by
  rintro n hn k s ⟨x, h, j, lo, hi, rfl, hjk, K, v13, v14, v15, v16, hb, lo0, lo1, hi0, hi1⟩
  have hl1 := ok.1
  have v0 := K.v0
  have v2 := K.v2
  have v12 := K.v12
  simp only [intsD] at v0
  have w2 : IntKind.i64.wrap ((i : Int) + w) = ((i + w : Nat) : Int) := by rw [wrap_i64 (by omega) (by omega)]; omega
  by_cases hj : j < w
  · have hij : i + j < l.length := by omega
    have hlt : ((i + j : Nat) : Int) < ((i + w : Nat) : Int) := by omega
    have hs := win_snoc hij
    obtain ⟨v, hv⟩ : ∃ v, l[i + j] = v := ⟨_, rfl⟩
    rw [hv] at hs
    have hvm : 0 ≤ v ∧ v ≤ 200000 := ok.2 v (by rw [← hv]; exact List.getElem_mem _)
    have okw : OkS (win l j i) := ok.part i j
    have sb := sum_bd okw.2
    have sl := okw.1
    have w1 : IntKind.i64.wrap (((i + j : Nat) : Int) + 1) = ((i + (j + 1) : Nat) : Int) := by rw [wrap_i64 (by omega) (by omega)]; omega
    have w3 : IntKind.i64.wrap ((win l j i).sum + v) = (win l j i).sum + v := wrap_i64 (by omega) (by omega)
    simp [-Int.natCast_add, k7l0, v0, v2, v12, v13, v14, v15, v16, w1, w2, w3, hlt, hij, hv, D.cells]
    refine ⟨k - 1, by omega, _, _, j + 1, min lo v, max hi v, rfl, by omega, ?_, by simp [hs], by simp, by simp, by simp, ?_, by omega, by omega, by omega, by omega⟩
    · exact ⟨by simp [K.v0], by simp [K.v1], by simp [K.v2], by simp [K.v7], by simp [K.v9], by simp [K.v10], by simp [K.v12], by simp [K.g], by repeat' first | exact K.fr | apply Heap.Fr.bump⟩
    · intro t ht
      rw [hs, List.mem_append] at ht
      rcases ht with ht | ht
      · have := hb t ht; omega
      · have : t = v := by simpa using ht
        omega
  · have hlt : ¬ ((i + j : Nat) : Int) < ((i + w : Nat) : Int) := by omega
    simp [-Int.natCast_add, k7l0, v2, v12, v16, w2, hlt]
    refine ⟨_, _, j, lo, hi, rfl, by omega, ?_, by simp [v13], by simp [v14], by simp [v15], by simp [v16], hb, lo0, lo1, hi0, hi1⟩
    exact ⟨by simp [K.v0], by simp [K.v1], by simp [K.v2], by simp [K.v7], by simp [K.v9], by simp [K.v10], by simp [K.v12], by simp [K.g], K.fr.bump _⟩
theorem cm_lo {l : List Int} (h : OkS l) (h1 : 1 ≤ l.length) {a : Int} (a0 : 0 ≤ a) (a1 : a ≤ 200000) (ha : ∀ t ∈ l, a ≤ t) : ¬ 0 < cmR a 1 (meP l).1 (meP l).2 := by
  have ok1 : okP (a, 1) := by unfold okP okR inR; simp; omega
  have := cm_pos ok1 (ok_me h h1)
  have hm := me_lo h h1 ha
  intro hc
  have := this.1 hc
  simp at this
  omega
theorem cm_hi {l : List Int} (h : OkS l) (h1 : 1 ≤ l.length) {a : Int} (a0 : 0 ≤ a) (a1 : a ≤ 200000) (ha : ∀ t ∈ l, t ≤ a) : ¬ 0 < cmR (meP l).1 (meP l).2 a 1 := by
  have ok1 : okP (a, 1) := by unfold okP okR inR; simp; omega
  have := cm_pos (ok_me h h1) ok1
  have hm := me_hi h h1 ha
  intro hc
  have := this.1 hc
  simp at this
  omega
def OuI (l m : List Int) (w : Nat) (L : List Pr) (b p : Nat) (B : Pr) (k : Nat) (s : St) : Prop := ∃ (x : Env 212) (h : Heap) (i : Nat), s = ⟨x.l, h, []⟩ ∧ i + k = L.length ∧ WnK l m w L b p B x h i
set_option maxHeartbeats 8000000 in
theorem ou_round (l m : List Int) (ok : OkS l) (w : Nat) (hw1 : 1 ≤ w) (hwl : w ≤ l.length) (L : List Pr) (hL : L = movP l w (l.length - w + 1)) (b p : Nat) (hbb : b = bst L (L.length - 1)) (B : Pr) (hB : B = gt L b) : ∀ n, 1000 ≤ n → ∀ k s, OuI l m w L b p B k s → Res (k7l1.ev ⟨pg, 212, none⟩ (rc pg n) s) (Rnd (OuI l m w L b p B) (fun x s => x = .exit 0 ∧ OuI l m w L b p B 0 s) k) := by
  rintro n hn k s ⟨x, h, i, rfl, hik, K⟩
  have hl1 := ok.1
  have hln : L.length = l.length - w + 1 := by rw [hL, mov_len]
  have v0 := K.v0
  have v7 := K.v7
  have v12 := K.v12
  simp only [intsD] at v0
  simp only [frsD] at v7
  by_cases hi : i < L.length
  · have hiw : i + w ≤ l.length := by omega
    have hil : i < l.length := by omega
    obtain ⟨e0, he⟩ : ∃ e0, l[i] = e0 := ⟨_, rfl⟩
    have hem : 0 ≤ e0 ∧ e0 ≤ 200000 := ok.2 e0 (by rw [← he]; exact List.getElem_mem _)
    simp [k7l1, v0, v7, v12, hi, hil, he, D.cells, ev_loop]
    refine Res.after (P := fun x s => x = .normal ∧ ∃ (x : Env 212) (h : Heap), s = ⟨x.l, h, []⟩ ∧ WnK l m w L b p B x h i) (Res.after (lp_rule 100 (InI l m w L b p B i) _ (in_round l m ok w L b p B i hiw) w n _ (by omega) ⟨_, _, 0, e0, e0, rfl, by omega, ⟨by simp [K.v0, intsD], by simp [K.v1], by simp [K.v2], by simp [K.v7], by simp [K.v9], by simp [K.v10], by simp [K.v12], by simp [K.g], by repeat' first | exact K.fr | apply Heap.Fr.bump⟩, by simp [win], by simp, by simp, by simp, by simp [win], by omega, by omega, by omega, by omega⟩) ?_) ?_
    · rintro x s ⟨rfl, x, h, j, lo, hi', rfl, hj, K, v13, v14, v15, v16, hbd, lo0, lo1, hi0, hi1⟩
      obtain rfl : j = w := by omega
      have wl := win_len hiw
      have okw : OkS (win l j i) := ok.part i j
      have hgi : gt L i = meP (win l j i) := by rw [hL, gt_mov l j _ i (by omega)]
      obtain ⟨v, hv⟩ : ∃ v, L[i] = v := ⟨_, rfl⟩
      have hgv : gt L i = v := by rw [gt_eq hi, hv]
      have hmv : meP (win l j i) = v := by rw [← hgi, hgv]
      obtain ⟨d1, d2, d3, d4, d5⟩ := me_den okw (by omega)
      have q1 := cm_lo okw (by omega) lo0 lo1 fun t ht => (hbd t ht).1
      have q2 := cm_hi okw (by omega) hi0 hi1 fun t ht => (hbd t ht).2
      have okL : ∀ i, i < L.length → okP (gt L i) := by rw [hL]; exact ok_mov ok hw1 (by omega)
      have pk := pk_all okL hi
      rw [← hbb, ← hB, hgv] at pk
      rw [hmv] at d1 d2 d3 d4 d5 q1 q2
      rw [wl] at d3
      have sb := sum_bd okw.2
      rw [wl] at sb
      have v0 := K.v0
      have v2 := K.v2
      have v7 := K.v7
      have v9 := K.v9
      have v10 := K.v10
      have v12 := K.v12
      have g := K.g
      simp only [intsD] at v0
      simp only [frsD] at v7
      simp only [frC] at g
      have u1 : v.1 * (j : Int) ≤ 80000000 * 400 := Int.mul_le_mul d5 (by omega) (by omega) (by omega)
      have u0 : 0 ≤ v.1 * (j : Int) := Int.mul_nonneg d4 (by omega)
      have w1 : IntKind.i64.wrap (v.1 * (j : Int)) = v.1 * (j : Int) := wrap_i64 (by omega) (by omega)
      have w2 : IntKind.i64.wrap ((win l j i).sum * v.2) = v.1 * (j : Int) := by rw [← d3]; exact w1
      have c1 := cmp_run v.1 v.2 B.1 B.2 (f := n) (by omega)
      have c2 := cmp_run lo 1 v.1 v.2 (f := n) (by omega)
      have c3 := cmp_run v.1 v.2 hi' 1 (f := n) (by omega)
      have hcm : cmR v.1 v.2 B.1 B.2 = cm v B := rfl
      rw [hcm] at c1
      have s30 : pg.sh 30 = false := rfl
      simp only [frD] at c1 c2 c3
      obtain ⟨z1, hz1⟩ : ∃ z, z = cm v B := ⟨_, rfl⟩
      obtain ⟨z2, hz2⟩ : ∃ z, z = cmR lo 1 v.1 v.2 := ⟨_, rfl⟩
      obtain ⟨z3, hz3⟩ : ∃ z, z = cmR v.1 v.2 hi' 1 := ⟨_, rfl⟩
      rw [← hz1] at c1 pk
      rw [← hz2] at c2 q1
      rw [← hz3] at c3 q2
      have p1 : ¬ 0 < z1 := by omega
      by_cases hz : z1 = 0
      · have hab := pk.2 hz
        have hni : ¬ (i : Int) < (b : Int) := by omega
        subst hz
        simp [v2, v7, v9, v10, v12, v13, v14, v15, g, hi, hv, D.cells, D.one, dcore_f, s30, c1, c2, c3, w1, w2, q1, q2, hni, frD]
        exact ⟨_, _, ⟨rfl, rfl⟩, ⟨by simp [K.v0], by simp [K.v1], by simp [K.v2], by simp [K.v7], by simp [K.v9], by simp [K.v10], by simp [K.v12], by simp [K.g], by repeat' first | exact K.fr | apply Heap.Fr.bump⟩⟩
      · have hzb : (z1 == 0) = false := by simp [hz]
        simp [v2, v7, v10, v12, v13, v14, v15, g, hi, hv, D.cells, D.one, dcore_f, s30, c1, c2, c3, w1, w2, q1, q2, p1, hzb, frD]
        exact ⟨_, _, ⟨rfl, rfl⟩, ⟨by simp [K.v0], by simp [K.v1], by simp [K.v2], by simp [K.v7], by simp [K.v9], by simp [K.v10], by simp [K.v12], by simp [K.g], by repeat' first | exact K.fr | apply Heap.Fr.bump⟩⟩
    · rintro x s ⟨rfl, x, h, rfl, K⟩
      have v12 := K.v12
      have w1 : IntKind.i64.wrap ((i : Int) + 1) = (i : Int) + 1 := wrap_i64 (by omega) (by omega)
      simp [v12, w1]
      exact ⟨k - 1, by omega, _, _, i + 1, rfl, by omega, ⟨by simp [K.v0], by simp [K.v1], by simp [K.v2], by simp [K.v7], by simp [K.v9], by simp [K.v10], by simp, by simp [K.g], K.fr.bump _⟩⟩
  · simp [k7l1, v7, v12, hi]
    exact ⟨_, _, i, rfl, by omega, ⟨by simp [K.v0], by simp [K.v1], by simp [K.v2], by simp [K.v7], by simp [K.v9], by simp [K.v10], by simp [K.v12], by simp [K.g], K.fr.bump _⟩⟩
end Go.Proofs.YtngjpeoloaeneaaGreatDoor
/- Windows: the law. -/
namespace Go.Proofs.YtngjpeoloaeneaaGreatDoor
open Go Go.Em
set_option maxRecDepth 100000
def OeI (l m : List Int) (W : Int) (b p : Nat) (B : Pr) (k : Nat) (s : St) : Prop := ∃ (x : Env 212) (h : Heap), s = ⟨x.l, h, []⟩ ∧ WnK l m W [] b p B x h 0
theorem oe_round (l m : List Int) (W : Int) (b p : Nat) (B : Pr) : ∀ n, 1000 ≤ n → ∀ k s, OeI l m W b p B k s → Res (k7l1.ev ⟨pg, 212, none⟩ (rc pg n) s) (Rnd (OeI l m W b p B) (fun x s => x = .exit 0 ∧ OeI l m W b p B 0 s) k) := by
  rintro n hn k s ⟨x, h, rfl, K⟩
  have v7 := K.v7
  have v12 := K.v12
  simp only [frsD] at v7
  simp [k7l1, v7, v12]
  exact ⟨_, _, rfl, ⟨by simp [K.v0], by simp [K.v1], by simp [K.v2], by simp [K.v7], by simp [K.v9], by simp [K.v10], by simp [K.v12], by simp [K.g], K.fr.bump _⟩⟩
def pkB (l : List Int) (W : Int) : Nat := bst (movL l W) ((movL l W).length - 1)
theorem pk_is (l : List Int) (W : Int) : pkR l W = .tup [D.int (pkB l W), frD (gt (movL l W) (pkB l W)).1 (gt (movL l W) (pkB l W)).2, D.int (movE l W)] := by
  unfold pkR pkB
  by_cases h : movE l W = 0
  · rw [if_pos h, h]
  · have hL : movL l W = [] := by unfold movL; rw [if_neg h]
    rw [if_neg h, hL]; rfl
theorem mov_dims {l : List Int} {W : Int} (h : movE l W = 0) : OkS l ∧ 1 ≤ W ∧ W ≤ l.length ∧ movL l W = movP l W.toNat (l.length - W.toNat + 1) := by
  have hL : movL l W = movP l W.toNat (l.length - W.toNat + 1) := by unfold movL; rw [if_pos h]
  unfold movE at h
  split at h
  · next hs =>
    split at h
    · next hi =>
      obtain ⟨ok, h1⟩ := ser_ok hs
      have hWr : 1 ≤ W ∧ W ≤ l.length := by unfold inR at hi; simpa using hi
      exact ⟨ok, hWr.1, hWr.2, hL⟩
    · omega
  · omega
theorem wl_run (l m : List Int) (W : Int) (p : Nat) (x : Env 212) (h : Heap) (K : WnK l m W (movL l W) (pkB l W) p (gt (movL l W) (pkB l W)) x h 0) {n : Nat} (hn : 2000 ≤ n) : Res ((rc pg n).lp ⟨pg, 212, none⟩ k7l1 ⟨x.l, h, []⟩) (fun x s => x = .exit 0 ∧ ∃ (x : Env 212) (h : Heap) (i : Nat), s = ⟨x.l, h, []⟩ ∧ WnK l m W (movL l W) (pkB l W) p (gt (movL l W) (pkB l W)) x h i) := by
  have hlen := mov_len' l W
  by_cases he : movE l W = 0
  · obtain ⟨ok, hW1, hW2, hL⟩ := mov_dims he
    obtain ⟨w, rfl⟩ : ∃ w : Nat, W = w := ⟨W.toNat, by omega⟩
    have r := ou_round l m ok w (by omega) (by omega) (movL l w) (by rw [hL]; rfl) (pkB l w) p rfl (gt (movL l w) (pkB l w)) rfl
    refine (lp_rule 1000 (OuI l m w (movL l w) (pkB l w) p (gt (movL l w) (pkB l w))) _ r (movL l w).length n _ (by omega) ⟨x, h, 0, rfl, by omega, K⟩).mono ?_
    rintro x s ⟨rfl, x, h, i, rfl, _, K⟩
    exact ⟨rfl, x, h, i, rfl, K⟩
  · have hL : movL l W = [] := by unfold movL; rw [if_neg he]
    rw [hL] at K ⊢
    refine (lp_rule 1000 (OeI l m W (pkB l W) p (gt [] (pkB l W))) _ (oe_round l m W (pkB l W) p (gt [] (pkB l W))) 0 n _ (by omega) ⟨x, h, rfl, K⟩).mono ?_
    rintro x s ⟨rfl, x, h, rfl, K⟩
    exact ⟨rfl, x, h, 0, rfl, K⟩
theorem call_flat {pg : Pg} {R : Rc} {f : FuncId} {a : D} {args bs : List D} {ks : List Nat} {h : Heap} {o : Out} (hs : pg.sh f = false) (ha : each (Go.Em.frz h depth) (a :: args) = some (bs, ks)) (x : pureCall R f bs = some o) (hf : o.d.flat = true) : call pg R f (a :: args) h = some (o, h) := by
  unfold call
  rw [hs, ha]
  simp only [Bool.false_eq_true, if_false, pureA_cons, pureS_is, x, orS_some, Option.map_some, hf, Bool.or_true, if_true]
theorem ints_cells : ∀ l : List Int, (l.map D.int).flatMap D.cells = l.map D.int
  | [] => rfl
  | a :: l => by rw [List.map_cons, List.flatMap_cons, ints_cells l]; rfl
theorem ints_ones (l : List Int) : (l.map D.int).all D.one = true := by rw [List.all_map]; exact List.all_eq_true.2 fun x _ => rfl
theorem ap2 {h : Heap} {k t t2 : Nat} (l m : List Int) (hl : l.length ≤ 1048576) (hm : m.length ≤ 1048576) (hg : h.get k = some (.cells 3 [])) (ht : h.raw t = none) (ht2 : h.raw t2 = none) (kt : k ≠ t) (kt2 : k ≠ t2) (tt : t ≠ t2) :
    ∃ d1 h1 d2 h2 K c, apK t 3 1 8 h (.slr k 0 0 1 (some 0)) (some (l.length, (l.map D.int).flatMap D.cells)) = some (d1, h1) ∧ apK t2 3 1 8 h1 d1 (some (m.length, (m.map D.int).flatMap D.cells)) = some (d2, h2) ∧ d2 = .slr K 0 (l ++ m).length 1 c ∧ h2.get K = some (.cells 3 ((l ++ m).map D.int)) ∧ (∀ j, j ≠ t → j ≠ t2 → h2.get j = h.get j) ∧ (∀ j, j ≠ t → j ≠ t2 → h2.raw j = h.raw j) ∧ h2.next = h.next := by
  have r8 : room = 140737488355328 := rfl
  rw [ints_cells, ints_cells]
  by_cases l0 : l = []
  · subst l0
    by_cases m0 : m = []
    · subst m0
      exact ⟨_, _, _, _, k, some 0, apK_zero_slr .., apK_zero_slr .., rfl, hg, fun _ _ _ => rfl, fun _ _ _ => rfl, rfl⟩
    · have m1 : 0 < m.length := List.length_pos_iff.2 m0
      refine ⟨_, _, .slr t2 0 m.length 1 none, h.set t2 (some (.cells 3 (m.map D.int))), t2, none, apK_zero_slr .., ?_, by simp, by simp, fun j _ h2 => by simp [h2], fun j _ h2 => by simp [Heap.raw_set, h2], by simp⟩
      rw [apK_some _ (ints_ones m) (by omega), appD_slr, hg]
      simp [appS, show ¬ m.length ≤ 0 by omega, Heap.alloc_of ht2, room, maxLen]
      omega
  · have l1 : 0 < l.length := List.length_pos_iff.2 l0
    have e1 : apK t 3 1 8 h (.slr k 0 0 1 (some 0)) (some (l.length, l.map D.int)) = some (.slr t 0 l.length 1 none, h.set t (some (.cells 3 (l.map D.int)))) := by
      rw [apK_some _ (ints_ones l) (by omega), appD_slr, hg]
      simp [appS, show ¬ l.length ≤ 0 by omega, Heap.alloc_of ht, room, maxLen]
      omega
    by_cases m0 : m = []
    · subst m0
      exact ⟨_, _, .slr t 0 l.length 1 none, h.set t (some (.cells 3 (l.map D.int))), t, none, e1, apK_zero_slr .., by simp, by simp, fun j h2 _ => by simp [h2], fun j h2 _ => by simp [Heap.raw_set, h2], by simp⟩
    · have m1 : 0 < m.length := List.length_pos_iff.2 m0
      refine ⟨_, _, .slr t2 0 (l.length + m.length) 1 none, ((h.set t (some (.cells 3 (l.map D.int)))).set t none).set t2 (some (.cells 3 (l.map D.int ++ m.map D.int))), t2, none, e1, ?_, by simp, by simp, fun j h1 h2 => by simp [h1, h2], fun j h1 h2 => by simp [Heap.raw_set, h1, h2], by simp⟩
      rw [apK_some _ (ints_ones m) (by omega), appD_slr, show (h.set t (some (.cells 3 (l.map D.int)))).get t = some (.cells 3 (l.map D.int)) by simp, appS_none (by simp) (by omega) (by unfold room; omega) (by unfold maxLen; omega), Heap.alloc_of (by simp [Heap.raw_set, Ne.symm tt, ht2])]
      rfl
theorem men_tup (l : List Int) : ∃ a b e, menR l = .tup [.agg [D.int a, D.int b], D.int e] ∧ (e = 0 → OkS l ∧ 1 ≤ l.length ∧ a = (meP l).1 ∧ b = (meP l).2) := by
  unfold menR
  by_cases h : serF l = true
  · obtain ⟨ok, h1⟩ := ser_ok h
    rw [if_pos h, men_frD ok h1]
    exact ⟨_, _, _, rfl, fun _ => ⟨ok, h1, rfl, rfl⟩⟩
  · rw [if_neg h, if_neg h]
    exact ⟨_, _, 62, rfl, fun h => absurd h (by decide)⟩
theorem me_comm (l m : List Int) : meP (m ++ l) = meP (l ++ m) := by
  unfold meP
  rw [show (m ++ l).sum = (l ++ m).sum by simp [Int.add_comm], show (m ++ l).length = (l ++ m).length by simp [Nat.add_comm]]
theorem ok_comm {l m : List Int} (h : OkS (l ++ m)) : OkS (m ++ l) := by
  refine ⟨?_, fun t ht => h.2 t ?_⟩
  · have := h.1; simp at this ⊢; omega
  · rw [List.mem_append] at ht ⊢; exact ht.symm
theorem chunk1 : ∀ l : List Int, chunk 1 l.length (l.map D.int) = l.map D.int
  | [] => rfl
  | a :: l => by
    have := chunk1 l
    rw [List.length_cons, chunk]
    simp [this]
theorem frz_slr1 {h : Heap} {K : Nat} {c : Option Nat} (l : List Int) (g : h.get K = some (.cells 3 (l.map D.int))) : each (Go.Em.frz h depth) [.slr K 0 l.length 1 c] = some ([intsD l], [K]) := by
  have hea := each_canon h 22 (l.map D.int) (ints_canonL l)
  have : Go.Em.frz h (23 + 1) (.slr K 0 l.length 1 c) = some (intsD l, [K]) := by
    rw [frz_slr, g, frzS_cells]
    simp only [List.drop_zero, Nat.mul_one, Nat.zero_add, List.length_map, show (l.map D.int).take l.length = l.map D.int from List.take_of_length_le (by simp), hea]
    simp [intsD, chunk1]
  show each (Go.Em.frz h (23 + 1)) _ = _
  simp [this]
set_option maxHeartbeats 16000000 in
theorem windows_law (l m : List Int) (hl : l.length ≤ 1048576) (hm : m.length ≤ 1048576) (W : Int) {f : Nat} (hf : 1000100000 ≤ f) : pureCall (rc pg f) 7 [intsD l, intsD m, D.int W] = some (.ret (.val (.bool true))) := by
  obtain ⟨n, rfl, e⟩ := body (pg := pg) (f := 7) (args := [intsD l, intsD m, D.int W]) (show 0 < f by omega) rfl rfl
  rw [e]
  have c3 := fun h => call_of (h := h) (pg := pg) (f := 34) rfl (by simp [intsD, ints_canonL]) (moving_run l W (n := n) (by omega))
  have c5 := fun h => call_of (h := h) (pg := pg) (f := 36) rfl (by simp [intsD, ints_canonL]) (peak_run l W (n := n) (by omega))
  rw [mov_is] at c3
  rw [pk_is] at c5
  have hrun := fun p x h K => wl_run l m W p x h K (n := n) (by omega)
  have hcond : (movE l W ≠ 0 → movL l W = []) ∧ (movE l W = 0 → ¬ W < 1 ∧ ((movL l W).length : Int) = l.length - W + 1) := by
    constructor
    · intro h; unfold movL; rw [if_neg h]
    · intro h
      obtain ⟨ok, hW1, hW2, hL⟩ := mov_dims h
      rw [hL, mov_len]
      omega
  obtain ⟨L, hL⟩ : ∃ L, L = movL l W := ⟨_, rfl⟩
  obtain ⟨b, hb⟩ : ∃ b, b = pkB l W := ⟨_, rfl⟩
  obtain ⟨E, hE⟩ : ∃ E, E = movE l W := ⟨_, rfl⟩
  rw [← hL, ← hb] at hrun
  rw [← hL, ← hE] at c3 hcond
  rw [← hL, ← hb, ← hE] at c5
  obtain ⟨B, hB⟩ : ∃ B, B = gt L b := ⟨_, rfl⟩
  rw [← hB] at hrun c5
  simp only [intsD, frsD, frD] at c3 c5
  by_cases h0 : E = 0
  case' pos =>
    obtain ⟨k1, k2⟩ := hcond.2 h0
    have w1 : IntKind.i64.wrap ((l.length : Int) - W) = (l.length : Int) - W := wrap_i64 (by omega) (by omega)
    have w2 : IntKind.i64.wrap ((l.length : Int) - W + 1) = (L.length : Int) := by rw [wrap_i64 (by omega) (by omega)]; omega
    subst h0
    simp [k7, Env.v_ini, intsD, c3, c5, D.cells, D.one, k1, w1, w2, ev_loop]
  case' neg =>
    have hL0 := hcond.1 h0
    have hne : (E != 0) = true := by rw [bne_iff_ne]; exact h0
    have hne2 : (E == 0) = false := by simp [h0]
    subst hL0
    simp [k7, Env.v_ini, intsD, c3, c5, D.cells, D.one, hne, hne2, ev_loop]
  all_goals
    refine Res.endsAfter (hrun 434 _ _ ⟨by simp [Env.v_ini, intsD], by simp [Env.v_ini, intsD], by simp [Env.v_ini], by simp [frsD, frD], by simp, by simp, by simp, by simp [frC], ?_⟩) ?_
    · repeat' first | exact Heap.Fr.empty | apply Heap.Fr.bump | apply Heap.Fr.set
      all_goals simp
    · rintro x s ⟨rfl, x, h, i, rfl, K⟩
      have v0 := K.v0
      have v1 := K.v1
      have hf := K.fr
      have hfr : ∀ j, h.raw (h.next + j) = none := fun j => hf _ (by omega)
      have c1 := fun h => call_of (h := h) (pg := pg) (f := 32) rfl (ints_can l) (mean_run l (n := n) (by omega))
      have c2 := fun h => call_of (h := h) (pg := pg) (f := 32) rfl (ints_can m) (mean_run m (n := n) (by omega))
      obtain ⟨a1, a2, a3, hm1, om1⟩ := men_tup l
      obtain ⟨b1, b2, b3, hm2, om2⟩ := men_tup m
      obtain ⟨g1, g2, g3, hm3, om3⟩ := men_tup (l ++ m)
      rw [hm1] at c1
      rw [hm2] at c2
      simp only [intsD] at v0 v1 c1 c2
      obtain ⟨H, hH⟩ : ∃ H : Heap, H = (((((((h.bump 212).set (h.next + 18) (some (Blk.cells 36 [D.val (Value.int IntKind.i64 0), D.val (Value.int IntKind.i64 0)]))).set (h.next + 18) (some (Blk.cells 36 [D.int a1, D.int a2]))).bump 212).set (h.next + 232) (some (Blk.cells 36 [D.val (Value.int IntKind.i64 0), D.val (Value.int IntKind.i64 0)]))).set (h.next + 232) (some (Blk.cells 36 [D.int b1, D.int b2]))).bump 212).set (h.next + 597) (some (Blk.cells 3 (zerosD [Value.int IntKind.i64 0] 1 0))) := ⟨_, rfl⟩
      have Hn : H.next = h.next + 636 := by rw [hH]; simp [Nat.add_assoc]
      have Hr : ∀ j, j ≠ 18 → j ≠ 232 → j ≠ 597 → H.raw (h.next + j) = none := fun j h1 h2 h3 => by rw [hH]; simp [Heap.raw_set, h1, h2, h3, hfr]
      have Hg : H.get (h.next + 597) = some (.cells 3 []) := by rw [hH]; simp [zerosD]
      have H18 : H.get (h.next + 18) = some (.cells 36 [D.int a1, D.int a2]) := by rw [hH]; simp
      have H20 : H.get (h.next + 232) = some (.cells 36 [D.int b1, D.int b2]) := by rw [hH]; simp
      obtain ⟨d1, h1, d2, h2, KK, cc, e1, e2, hd2, hgK, hge, hra, hnx⟩ := ap2 (h := H) (k := h.next + 597) (t := h.next + 599) (t2 := h.next + 601) l m hl hm Hg (Hr _ (by omega) (by omega) (by omega)) (Hr _ (by omega) (by omega) (by omega)) (by omega) (by omega) (by omega)
      have g18 : h2.get (h.next + 18) = some (.cells 36 [D.int a1, D.int a2]) := by rw [hge _ (by omega) (by omega)]; exact H18
      have g20 : h2.get (h.next + 232) = some (.cells 36 [D.int b1, D.int b2]) := by rw [hge _ (by omega) (by omega)]; exact H20
      have r22 : ∀ j, 602 ≤ j ∨ j = 446 → h2.raw (h.next + j) = none := fun j hj => by rw [hra _ (by omega) (by omega)]; exact Hr j (by omega) (by omega) (by omega)
      rw [Hn] at hnx
      have c3 : call pg (rc pg n) 32 [d2] h2 = some (.ret (.tup [.agg [D.int g1, D.int g2], D.int g3]), h2) := by
        rw [hd2]
        have mr := mean_run (l ++ m) (n := n) (by omega)
        rw [hm3] at mr
        exact call_flat rfl (frz_slr1 (l ++ m) hgK) mr rfl
      have r446 := r22 446 (.inr rfl)
      have hs := fun h => @sane_call n (by omega) h
      rw [hH] at e1
      by_cases z1 : a3 = 0
      case neg =>
        have y1 : (a3 != 0) = true := by rw [bne_iff_ne]; exact z1
        simp [v0, v1, c1, c2, D.cells, D.one, hfr, Nat.add_assoc, e1, e2, c3, r446, y1, hs]
      by_cases z2 : b3 = 0
      case neg =>
        have y2 : (b3 != 0) = true := by rw [bne_iff_ne]; exact z2
        simp [v0, v1, c1, c2, D.cells, D.one, hfr, Nat.add_assoc, e1, e2, c3, r446, z1, y2, hs]
      by_cases z3 : g3 = 0
      case neg =>
        have y3 : (g3 != 0) = true := by rw [bne_iff_ne]; exact z3
        simp [v0, v1, c1, c2, D.cells, D.one, hfr, Nat.add_assoc, e1, e2, c3, r446, z1, z2, y3, hs]
      obtain ⟨okl, l1, ra1, ra2⟩ := om1 z1
      obtain ⟨okm, m1, rb1, rb2⟩ := om2 z2
      obtain ⟨okc, _, rg1, rg2⟩ := om3 z3
      have c30 := fun x y z t h => call_of (h := h) (pg := pg) (f := 30) rfl rfl (cmp_run x y z t (f := n) (by omega))
      simp only [frD] at c30
      have k12 : cmR a1 a2 b1 b2 = cm (meP l) (meP m) := by rw [ra1, ra2, rb1, rb2]; rfl
      have k21 : cmR b1 b2 a1 a2 = cm (meP m) (meP l) := by rw [ra1, ra2, rb1, rb2]; rfl
      by_cases hc : 0 < cmR a1 a2 b1 b2
      · have hc' : ¬ 0 < cm (meP m) (meP l) := by
          rw [k12, cm_me okl l1 okm m1] at hc
          rw [cm_me okm m1 okl l1]
          unfold sgn at hc ⊢
          split at hc
          · omega
          · split at hc
            · next h2 => rw [if_pos h2]; omega
            · omega
        have hq := me_cat okm m1 okl l1 (ok_comm okc) hc'
        rw [me_comm] at hq
        have q1 : cmR b1 b2 g1 g2 ≤ 0 := by rw [rb1, rb2, rg1, rg2]; exact hq.1
        have q2 : cmR g1 g2 a1 a2 ≤ 0 := by rw [ra1, ra2, rg1, rg2]; exact hq.2
        clear ra1 ra2 rb1 rb2 rg1 rg2 k12 k21 om1 om2 om3
        simp [v0, v1, c1, c2, D.cells, D.one, hfr, Nat.add_assoc, e1, e2, c3, r446, z1, z2, z3, hs, c30, hc, q1, q2, g18, g20, hnx, r22]
      · have hq := me_cat okl l1 okm m1 okc (by rw [← k12]; exact hc)
        have q1 : cmR a1 a2 g1 g2 ≤ 0 := by rw [ra1, ra2, rg1, rg2]; exact hq.1
        have q2 : cmR g1 g2 b1 b2 ≤ 0 := by rw [rb1, rb2, rg1, rg2]; exact hq.2
        clear ra1 ra2 rb1 rb2 rg1 rg2 k12 k21 om1 om2 om3
        simp [v0, v1, c1, c2, D.cells, D.one, hfr, Nat.add_assoc, e1, e2, c3, r446, z1, z2, z3, hs, c30, hc, q1, q2, g18, g20, hnx]
end Go.Proofs.YtngjpeoloaeneaaGreatDoor
