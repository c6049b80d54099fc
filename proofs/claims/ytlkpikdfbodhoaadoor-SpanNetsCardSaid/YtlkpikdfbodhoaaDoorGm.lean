/- A net grows by a claim, by the program: the answer. -/
import Derived.Test.YtlkpikdfbodhoaaDoorGj
namespace Go.Proofs.YtlkpikdfbodhoaaDoor
open Go Go.Em Go.Em.Net
set_option maxRecDepth 100000
set_option maxHeartbeats 16000000 in
theorem grow_bad {M' Z : List Int} {B : Nat → Nat → Int} {c : Clm} {p q : Nat} (hp : p < M'.length) (hq : q < M'.length) (hhi : -100000 ≤ c.hi ∧ c.hi ≤ 100000) (hbad : B p q < c.lo ∨ B q p < -c.hi) {kb mb : Nat} {ks : List Nat} {h : Heap} (t : GrH M' Z B c kb mb ks h) (y : Env 101) (v3 : y.v 3 = .ptr 3 0) (v4 : y.v 4 = .ptr 4 0) (v8 : y.v 8 = .ptr 513 0) (v9 : y.v 9 = D.int p) (v10 : y.v 10 = D.int q) {n : Nat} (hn : 1000 ≤ n) :
    endK (rc pg n) [(.cell 4 40, true, 2), (.tmp 5, false, 0)] (k19u.ev ⟨pg, 101, none⟩ (rc pg n) ⟨y.l, h, []⟩) = some (.ret (.tup [nilN, D.int 25])) := by
  have g3 := t.g3
  have g4 := t.g4
  have g8 := t.g8
  have htop := t.mat.top
  have hlk := t.mat.len
  obtain ⟨rp, r1, r2, r3, r4⟩ := t.mat.at hp
  obtain ⟨rq, s1, s2, s3, s4⟩ := t.mat.at hq
  obtain ⟨L, hL⟩ : ∃ L, L = ks.map (rowS M'.length) := ⟨_, rfl⟩
  rw [← hL] at htop r1 s1
  have hLl : L.length = M'.length := by rw [hL]; simp [hlk]
  simp only [clC] at g3
  simp only [sS, rowS] at g8 r1 s1
  simp only [nil2] at g4
  have y2 := fun a => yCs_len M'.length a
  have q1 := fun A h' => yCs_at (n := M'.length) (y := A) hp h'
  have q2 := fun A h' => yCs_at (n := M'.length) (y := A) hq h'
  have p1 : p + 1 ≤ M'.length := hp
  have p2 : q + 1 ≤ M'.length := hq
  have w1 : IntKind.i64.wrap (-c.hi) = -c.hi := wrap_i64 (by omega) (by omega)
  by_cases hb : B p q < c.lo
  · simp [k19u, v3, v4, v8, v9, v10, g3, g4, g8, htop, r1, r4, hLl, hp, hq, y2, q2, p1, p2, D.cells, D.one, hb]
    simp [nilN]
  · have hb2 : B q p < -c.hi := hbad.resolve_left hb
    simp [k19u, v3, v4, v8, v9, v10, g3, g4, g8, htop, r1, r4, s1, s4, hLl, hp, hq, y2, q1, q2, p1, p2, w1, D.cells, D.one, hb, hb2]
    simp [nilN]
end Go.Proofs.YtlkpikdfbodhoaaDoor
/- A net grows by a claim, by the program: the function. -/
namespace Go.Proofs.YtlkpikdfbodhoaaDoor
open Go Go.Em Go.Em.Net
set_option maxRecDepth 100000
set_option maxHeartbeats 16000000 in
theorem grow_t {M' Z : List Int} (hr : Rise M') (hl : M'.length ≤ 64) {B : Nat → Nat → Int} {c : Clm} (ha : c.a ∈ M') (hb : c.b ∈ M') {kb mb : Nat} {ks : List Nat} {h : Heap} (t : GrH M' Z B c kb mb ks h) (y : Env 101) (v3 : y.v 3 = .ptr 3 0) (v4 : y.v 4 = .ptr 4 0) (v8 : y.v 8 = .ptr 513 0) {n : Nat} (hn : 1000 ≤ n) {R : Option Out}
    (fin : ∀ y : Env 101, y.v 3 = .ptr 3 0 → y.v 4 = .ptr 4 0 → y.v 8 = .ptr 513 0 → y.v 9 = D.int (placeF M' c.a) → y.v 10 = D.int (placeF M' c.b) → endK (rc pg n) [(.cell 4 40, true, 2), (.tmp 5, false, 0)] (k19u.ev ⟨pg, 101, none⟩ (rc pg n) ⟨y.l, h.bump 101, []⟩) = R) :
    endK (rc pg n) [(.cell 4 40, true, 2), (.tmp 5, false, 0)] (k19t.ev ⟨pg, 101, none⟩ (rc pg n) ⟨y.l, h, []⟩) = R := by
  have g3 := t.g3
  have g8 := t.g8
  have ml := t.ml
  have c1 := fun s1 s2 d wt (y : Env 101) b H h1 h2 hg => place_dc (v := c.a) hr (Nat.le_trans hl (by omega)) (n := n) (by omega) s1 s2 d wt y b H h1 h2 (Z := Z) (kb := kb) hg
  have c2 := fun s1 s2 d wt (y : Env 101) b H h1 h2 hg => place_dc (v := c.b) hr (Nat.le_trans hl (by omega)) (n := n) (by omega) s1 s2 d wt y b H h1 h2 (Z := Z) (kb := kb) hg
  rw [pos_of ha] at c1
  rw [pos_of hb] at c2
  obtain ⟨p, hp⟩ : ∃ p, p = placeF M' c.a := ⟨_, rfl⟩
  obtain ⟨q, hq⟩ : ∃ q, q = placeF M' c.b := ⟨_, rfl⟩
  rw [← hp] at c1 fin
  rw [← hq] at c2 fin
  simp only [clC] at g3
  simp only [sS, rowS] at g8 c1 c2
  simp [k19t, v3, v8, g3, g8, ml, c1, c2]
  exact fin _ (by simp [v3]) (by simp [v4]) (by simp [v8]) (by simp) (by simp)
end Go.Proofs.YtlkpikdfbodhoaaDoor
