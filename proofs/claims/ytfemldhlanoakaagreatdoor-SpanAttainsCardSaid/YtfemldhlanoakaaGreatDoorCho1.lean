/- The document's chronology: the years that are left to one mark. -/
import Derived.Test.YtfemldhlanoakaaGreatDoorSh1
import Derived.Test.YtfemldhlanoakaaGreatDoorRoom
import Derived.Test.YtfemldhlanoakaaGreatDoorGw
import Derived.Test.YtfemldhlanoakaaGreatDoorKp1
namespace Go.Proofs.YtfemldhlanoakaaGreatDoor
open Go Go.Em Go.Em.Net
set_option maxRecDepth 100000
def GZ (ty sz len : Nat) (cs : List D) (h : Heap) (d : D) : Prop := (len = 0 ∧ d = .val (.slice none 0 0)) ∨ 0 < len ∧ ∃ k, d = .slr k 0 len sz none ∧ h.get k = some (.cells ty cs) ∧ k < h.next
theorem GZ.keep {ty sz len : Nat} {cs : List D} {h h' : Heap} {d : D} (g : GZ ty sz len cs h d) (hn : h.next ≤ h'.next) (hk : ∀ q, q < h.next → h'.get q = h.get q) : GZ ty sz len cs h' d := by
  rcases g with g | ⟨g0, k, g1, g2, g3⟩
  · exact .inl g
  · exact .inr ⟨g0, k, g1, by rw [hk _ g3]; exact g2, by omega⟩
/-- What the marks before one leave to it. -/
def chI (A : Nat → Nat → Int) (y : Nat → Int) (j : Nat) : Nat → Int × Int
  | 0 => (-1000000000, 1000000000)
  | J + 1 => if A J j = 1000000000 then chI A y j J else (max (chI A y j J).1 (y J - A j J), min (chI A y j J).2 (y J + A J j))
theorem ls_cell {M : List Int} {y : Nat → Int} {j K : Nat} (h : K < j) : ((lsF M y j).flatMap dtC)[K * 2 + 1]? = some (D.int (y K)) := by
  induction j with
  | zero => omega
  | succ j ih =>
    rw [lsF_snoc, List.flatMap_append]
    by_cases hK : K < j
    · rw [List.getElem?_append_left (by rw [ls_cells, lsF_len]; omega)]
      exact ih hK
    · obtain rfl : K = j := by omega
      rw [List.getElem?_append_right (by rw [ls_cells, lsF_len]; omega), ls_cells, lsF_len, show K * 2 + 1 - K * 2 = 1 by omega]
      rfl
def C0I (A : Nat → Nat → Int) (y : Nat → Int) (j : Nat) (x0 : Env 98) (h0 : Heap) (k : Nat) (s : St) : Prop := ∃ (x : Env 98) (h : Heap) (K : Nat), s = ⟨x.l, h, []⟩ ∧ K + k = j ∧ (∀ q, q < 11 → x.v q = x0.v q) ∧ (∀ q, 20 < q → q < 24 → x.v q = x0.v q) ∧ x.v 29 = D.int j ∧ x.v 30 = D.int K ∧ x.v 11 = D.int (chI A y j K).1 ∧ x.v 12 = D.int (chI A y j K).2 ∧ (∀ q, h.get q = h0.get q) ∧ h0.next ≤ h.next ∧ h.Fr
set_option maxHeartbeats 8000000 in
theorem cho_round (M : List Int) (hl : M.length ≤ 64) (A : Nat → Nat → Int) (hA : ∀ a b, -1000000000000 ≤ A a b ∧ A a b ≤ 1000000000000) (y : Nat → Int) (j : Nat) (hj : j < M.length) (hy : ∀ q, q < j → -1000000000 ≤ y q ∧ y q ≤ 1000000000) (x0 : Env 98) (h0 : Heap) (b5 : Nat) (d7 : D) (v5 : x0.v 5 = .ptr b5 0) (hg5 : h0.get b5 = some (.cells 49 [intsD M, rowsD M.length A])) (v7 : x0.v 7 = d7) (g7 : GZ 80 2 j ((lsF M y j).flatMap dtC) h0 d7) (v9 : x0.v 9 = D.int j) : ∀ n, 1 ≤ n → ∀ k s, C0I A y j x0 h0 k s → Res (k30l0.ev ⟨pg, 98, none⟩ (rc pg n) s) (Rnd (C0I A y j x0 h0) (fun x s => x = .exit 2 ∧ C0I A y j x0 h0 0 s) k) := by
  rintro n hn k s ⟨x, h, K, rfl, hKk, sm, sm2, w29, w30, w11, w12, hh, hnx, hf⟩
  have u5 := sm 5 (by omega)
  have u7 := sm 7 (by omega)
  have u9 := sm 9 (by omega)
  rw [v5] at u5
  rw [v7] at u7
  rw [v9] at u9
  by_cases hK : K < j
  · have q1 := hA K j
    have q2 := hA j K
    have hyK := hy K hK
    have hKn : K < M.length := by omega
    rcases g7 with ⟨g7, _⟩ | ⟨_, k7, rfl, g7, n7⟩
    · omega
    rw [← hh k7] at g7
    rw [← hh b5] at hg5
    have hc1 := ls_cell (M := M) (y := y) hK
    have hcl : ((lsF M y j).flatMap dtC).length = j * 2 := by rw [ls_cells, lsF_len]
    have y1 := fun a => yCs_len M.length a
    have e1 := fun h' => yCs_at (y := A K) hj h'
    have e2 := fun h' => yCs_at (y := A j) hKn h'
    have i1 : K + 1 ≤ M.length := hKn
    have i2 : j + 1 ≤ M.length := hj
    have hK1 : K + 1 ≤ j := hK
    have hK2 : K * 2 + 1 + 1 ≤ j * 2 := by omega
    have x1 : IntKind.i64.wrap (y K - A j K) = y K - A j K := wrap_i64 (by omega) (by omega)
    have x2 : IntKind.i64.wrap (y K + A K j) = y K + A K j := wrap_i64 (by omega) (by omega)
    have x3 : IntKind.i64.wrap ((K : Int) + 1) = (K : Int) + 1 := wrap_i64 (by omega) (by omega)
    simp only [intsD, rowsD] at hg5
    by_cases f1 : A K j = 1000000000
    · have f1' : (A K j != 1000000000) = false := by simpa using f1
      simp [-beq_iff_eq, -bne_iff_ne, -bne_eq_false_iff_eq, k30l0, u5, u7, u9, w29, w30, w11, w12, hK, hK1, hK2, hg5, g7, hc1, hcl, hKn, hj, i1, i2, y1, e1, e2, f1', x1, x2, x3, D.cells, D.one]
      exact ⟨k - 1, by omega, _, _, K + 1, rfl, by omega, fun q hq => by
        have ne : ∀ t, 11 ≤ t → (t = q) = False := fun t ht => by simp; omega
        rw [← sm q hq]; simp [ne], fun q h1 h2 => by
        have ne : ∀ t, 24 ≤ t → (t = q) = False := fun t ht => by simp; omega
        have ne' : ∀ t, t ≤ 20 → (t = q) = False := fun t ht => by simp; omega
        rw [← sm2 q h1 h2]; simp [ne, ne'], by simp [w29], by simp, by rw [chI]; simp [w11, f1], by rw [chI]; simp [w12, f1], fun q => by simp [hh], by simp; omega, by
        repeat' first | exact hf | apply Heap.Fr.bump⟩
    · have f1' : (A K j != 1000000000) = true := by simpa using f1
      simp [-beq_iff_eq, -bne_iff_ne, -bne_eq_false_iff_eq, k30l0, u5, u7, u9, w29, w30, w11, w12, hK, hK1, hK2, hg5, g7, hc1, hcl, hKn, hj, i1, i2, y1, e1, e2, f1', x1, x2, x3, D.cells, D.one]
      exact ⟨k - 1, by omega, _, _, K + 1, rfl, by omega, fun q hq => by
        have ne : ∀ t, 11 ≤ t → (t = q) = False := fun t ht => by simp; omega
        rw [← sm q hq]; simp [ne], fun q h1 h2 => by
        have ne : ∀ t, 24 ≤ t → (t = q) = False := fun t ht => by simp; omega
        have ne' : ∀ t, t ≤ 20 → (t = q) = False := fun t ht => by simp; omega
        rw [← sm2 q h1 h2]; simp [ne, ne'], by simp [w29], by simp, by rw [chI]; simp [f1], by rw [chI]; simp [f1], fun q => by simp [hh], by simp; omega, by
        repeat' first | exact hf | apply Heap.Fr.bump⟩
  · simp [k30l0, w29, w30, hK]
    exact ⟨_, _, K, rfl, by omega, fun q hq => by
      have ne : ∀ t, 11 ≤ t → (t = q) = False := fun t ht => by simp; omega
      rw [← sm q hq]; simp [ne], fun q h1 h2 => by
      have ne : ∀ t, 24 ≤ t → (t = q) = False := fun t ht => by simp; omega
      rw [← sm2 q h1 h2]; simp [ne], by simp [w29], by simp [w30], by simp [w11], by simp [w12], fun q => by simp [hh], by simp; omega, hf.bump _⟩
/-! ### The years that are left, as the program finds them -/
theorem fillN_off {A : Nat → Nat → Int} {n : Nat} {p : List Int} : ∀ i q, i ≤ q → (fillN A n p s00 i).dt q = false
  | 0, _, _ => rfl
  | i + 1, q, h => by
    show (fillS A n p (fillN A n p s00 i) i).dt q = false
    rw [(fillS_ne (show q ≠ i by omega)).1]
    exact fillN_off i q (by omega)
theorem room_ch {A : Nat → Nat → Int} {dt : Nat → Bool} {y : Nat → Int} {j : Nat} (hd : ∀ q, q < j → dt q = true) (hs : ∀ q, A j q = 1000000000 ↔ A q j = 1000000000) : ∀ J, J ≤ j → (roomI A dt y j J).1 = (chI A y j J).1 ∧ (roomI A dt y j J).2.1 = (chI A y j J).2
  | 0, _ => ⟨rfl, rfl⟩
  | J + 1, h => by
    obtain ⟨e1, e2⟩ := room_ch hd hs J (by omega) (y := y)
    rw [roomI, chI]
    by_cases f : A J j = 1000000000
    · rw [if_neg (fun e => e.2 ((hs J).2 f)), if_pos f]; exact ⟨e1, e2⟩
    · rw [if_pos ⟨hd J (by omega), fun e => f ((hs J).1 e)⟩, if_neg f]; exact ⟨by simp only; rw [e1], by simp only; rw [e2]⟩
theorem room_off {A : Nat → Nat → Int} {dt : Nat → Bool} {y : Nat → Int} {j : Nat} (hd : ∀ q, j ≤ q → dt q = false) : ∀ m, roomI A dt y j (j + m) = roomI A dt y j j
  | 0 => rfl
  | m + 1 => by
    rw [show j + (m + 1) = (j + m) + 1 by omega, roomI, if_neg (fun e => by rw [hd (j + m) (by omega)] at e; cases e.1)]
    exact room_off hd m
theorem ch_free {A : Nat → Nat → Int} {y : Nat → Int} {j : Nat} : ∀ J, (∀ q, q < J → A q j = 1000000000) → chI A y j J = (-1000000000, 1000000000)
  | 0, _ => rfl
  | J + 1, h => by rw [chI, if_pos (h J (by omega))]; exact ch_free J (fun q hq => h q (by omega))
end Go.Proofs.YtfemldhlanoakaaGreatDoor
/- The document's chronology: all marks in turn. -/
namespace Go.Proofs.YtfemldhlanoakaaGreatDoor
open Go Go.Em Go.Em.Net
set_option maxRecDepth 100000
def pkJ (p : List Int) (j : Nat) : Int := if p = [] then 0 else p.getD (j % p.length) 0
theorem pkj_run (p : List Int) (hp : p.length ≤ 4611686018427387904) (j : Nat) (hj : j ≤ 4611686018427387904) {n : Nat} (hn : 1 ≤ n) : pureCall (rc pg n) 72 [intsD p, D.int j] = some (.ret (D.int (pkJ p j))) := by
  obtain ⟨m, rfl, e⟩ := body (pg := pg) (f := 72) (args := [intsD p, D.int j]) (show 0 < n by omega) rfl rfl
  rw [e]
  by_cases h0 : p = []
  · subst h0
    simp [k72, Env.v_ini, intsD, pkJ]
  · have hpl : 0 < p.length := List.length_pos_iff.2 h0
    have hl0 : ((p.length : Int) == 0) = false := by simp; omega
    have hq : j % p.length < p.length := Nat.mod_lt _ hpl
    obtain ⟨q, hqd⟩ : ∃ q, q = j % p.length := ⟨_, rfl⟩
    rw [← hqd] at hq
    obtain ⟨v, hv⟩ : ∃ v, p[q] = v := ⟨_, rfl⟩
    have e0 : pkJ p j = v := by
      unfold pkJ
      rw [if_neg h0, ← hqd, List.getD_eq_getElem?_getD, List.getElem?_eq_getElem hq, hv]; rfl
    have b1 := bin_rem (k := .i64) (a := (j : Int)) (b := (p.length : Int)) (by omega)
    have e1 : (j : Int).tmod (p.length : Int) = (q : Int) := by rw [Int.tmod_eq_emod_of_nonneg (by omega), hqd]; omega
    rw [e1] at b1
    simp [-beq_eq_false_iff_ne, k72, Env.v_ini, intsD, hl0, e0, b1, hq, hv, D.cells]
theorem pick_pk {p : List Int} {t : Nat} {c : Int} (hc : 1 ≤ c) : pickI p t c = pkJ p t % c := by
  unfold pickI pkJ
  by_cases h : p = []
  · rw [if_pos (.inl h), if_pos h]; simp
  · rw [if_neg (by simp [h]; omega), if_neg h]
def C1J (l : List Clm) (p : List Int) (b5 : Nat) (k : Nat) (s : St) : Prop := ∃ (x : Env 98) (h : Heap) (j : Nat), s = ⟨x.l, h, []⟩ ∧ j + k = (marksF l).length ∧ x.v 1 = intsD p ∧ x.v 5 = .ptr b5 0 ∧ x.v 8 = D.int (fillN (encM (cloF l)) (marksF l).length p s00 j).t ∧ x.v 21 = intsD (marksF l) ∧ x.v 22 = D.int (marksF l).length ∧ x.v 23 = D.int j ∧ GZ 80 2 j ((lsF (marksF l) (fillN (encM (cloF l)) (marksF l).length p s00 j).y j).flatMap dtC) h (x.v 7) ∧ h.get b5 = some (.cells 49 [intsD (marksF l), rowsD (marksF l).length (encM (cloF l))]) ∧ b5 < h.next ∧ h.Fr
def k73z : Cd :=
  .seq (.region [⟨none, (some 75), .inl (.mv (.s 10))⟩,
    ⟨none, (some 76), .inl (.bld [(.int .i64 0), (.int .i64 0)] [(0, 1, (.s 75))])⟩,
    ⟨none, (some 14), .inl (.alloc 80 [(.int .i64 0), (.int .i64 0)])⟩,
    ⟨none, none, .inl (.st 2 (.s 14) (.s 76))⟩])
  (.seq (.seq (.region [⟨none, (some 77), .inl (.mv (.s 12))⟩,
    ⟨none, (some 78), .inl (.bin .neq (.s 77) (.c (.int .i64 1000000000)))⟩])
  (.cond (.s 78) (.seq (.region [⟨none, (some 79), .inl (.mv (.s 11))⟩,
     ⟨none, (some 80), .inl (.mv (.s 1))⟩,
     ⟨none, (some 81), .inl (.mv (.s 8))⟩,
     ⟨none, (some 82), .inr (.fn 72 [(.s 80), (.s 81)])⟩,
     ⟨none, (some 83), .inl (.mv (.s 12))⟩,
     ⟨none, (some 84), .inl (.mv (.s 11))⟩,
     ⟨none, (some 85), .inl (.bin .sub (.s 83) (.s 84))⟩,
     ⟨none, (some 86), .inl (.bin .add (.s 85) (.c (.int .i64 1)))⟩,
     ⟨none, (some 87), .inr (.fn 71 [(.s 82), (.s 86)])⟩,
     ⟨none, (some 88), .inl (.bin .add (.s 79) (.s 87))⟩,
     ⟨none, (some 89), .inl (.fa (.s 14) 1)⟩,
     ⟨none, none, .inl (.st 1 (.s 89) (.s 88))⟩])
   (.region [⟨none, (some 90), .inl (.mv (.s 8))⟩,
     ⟨none, (some 91), .inl (.bin .add (.s 90) (.c (.int .i64 1)))⟩,
     ⟨none, (some 8), .inl (.mv (.s 91))⟩]))
  (.skip)))
  (.region [⟨none, (some 92), .inl (.mv (.s 7))⟩,
    ⟨none, (some 93), .inl (.ld true 2 (.s 14))⟩,
    ⟨none, (some 94), .inl (.bs 80 2 1 [(.int .i64 0), (.int .i64 0)] [(0, (.s 93))])⟩,
    ⟨none, (some 95), .inl (.app 80 2 16 (.s 92) (.s 94))⟩,
    ⟨none, (some 7), .inl (.mv (.s 95))⟩]))
def k73q : Cd :=
  .region [⟨none, (some 96), .inl (.bin .add (.s 23) (.c (.int .i64 1)))⟩,
    ⟨none, (some 23), .inl (.mv (.s 96))⟩]
theorem k73l1_eq : k30l1 = .seq (.region [⟨none, (some 24), .inl (.bin .lss (.s 23) (.s 22))⟩])
  (.seq (.cond (.s 24) (.skip)
  (.exit 0))
  (.seq (.block 1 (.seq (.region [⟨none, (some 25), .inl (.mv (.s 23))⟩,
    ⟨none, (some 26), .inl (.ias 1 (.s 21) (.s 23))⟩,
    ⟨none, (some 27), .inl (.ld false 1 (.s 26))⟩,
    ⟨none, (some 9), .inl (.mv (.s 25))⟩,
    ⟨none, (some 10), .inl (.mv (.s 27))⟩])
  (.seq (.region [⟨none, (some 11), .inl (.mv (.c (.int .i64 (-1000000000))))⟩])
  (.seq (.region [⟨none, (some 12), .inl (.mv (.c (.int .i64 1000000000)))⟩])
  (.seq (.seq (.region [⟨none, (some 28), .inl (.mv (.s 7))⟩,
    ⟨none, (some 29), .inl (.len (.s 28))⟩,
    ⟨none, (some 30), .inl (.mv (.c (.int .i64 0)))⟩])
  (.block 2 (.loop k30l0)))
  k73z)))))
  k73q)) := rfl
set_option maxHeartbeats 8000000 in
theorem cho_tail (l : List Clm) (h0 : OkW l) (hbad : badF l = false) (p : List Int) (hp : p.length ≤ 4000000000000000000) (b5 : Nat) {n k j : Nat} (hn : 100 ≤ n) (hj : j < (marksF l).length) (hjk : j + k = (marksF l).length) (S : Fs) (hS : S = fillN (encM (cloF l)) (marksF l).length p s00 j) (x : Env 98) (h : Heap) (m : Int) (hm : (marksF l)[j] = m) (v1 : x.v 1 = intsD p) (v5 : x.v 5 = .ptr b5 0) (v8 : x.v 8 = D.int S.t) (v9 : x.v 9 = D.int j) (v10 : x.v 10 = D.int m) (v11 : x.v 11 = D.int (chI (encM (cloF l)) S.y j j).1) (v12 : x.v 12 = D.int (chI (encM (cloF l)) S.y j j).2) (v21 : x.v 21 = intsD (marksF l)) (v22 : x.v 22 = D.int (marksF l).length) (v23 : x.v 23 = D.int j)
    (g7 : GZ 80 2 j ((lsF (marksF l) S.y j).flatMap dtC) h (x.v 7)) (g5 : h.get b5 = some (.cells 49 [intsD (marksF l), rowsD (marksF l).length (encM (cloF l))])) (n5 : b5 < h.next) (hf : h.Fr) :
    Res (andThen (blockK 1 (k73z.ev ⟨pg, 98, none⟩ (rc pg n) ⟨x.l, h, []⟩)) (k73q.ev ⟨pg, 98, none⟩ (rc pg n))) (Rnd (C1J l p b5) (fun x s => x = .exit 0 ∧ C1J l p b5 0 s) k) := by
  have hl := h0.n64
  have bt := cloww_small h0 hbad
  have c := cloww_clsd h0 hbad
  have ho := cloww_out h0
  have hSn : fillN (encM (cloF l)) (marksF l).length p s00 (j + 1) = fillS (encM (cloF l)) (marksF l).length p S j := by rw [hS]; rfl
  have hok := (fillN_ok (f00 (marksF l).length (cloF l)) c bt ho p j (by omega)).1
  have hdt := (fillN_ok (f00 (marksF l).length (cloF l)) c bt ho p j (by omega)).2
  have hoff := fun q hq => fillN_off (A := encM (cloF l)) (n := (marksF l).length) (p := p) j q hq
  have ht := fillN_t (A := encM (cloF l)) (n := (marksF l).length) (p := p) (s := s00) j
  have ht0 : s00.t = 0 := rfl
  have hyq : ∀ q, q < j → (fillN (encM (cloF l)) (marksF l).length p s00 (j + 1)).y q = S.y q := fun q hq => by rw [fillN_y hq, ← hS]
  rw [← hS] at hok hdt hoff ht
  have hsym : ∀ q, encM (cloF l) j q = 1000000000 ↔ encM (cloF l) q j = 1000000000 := fun q => by
    rw [far_iff bt, far_iff bt]
    exact ⟨fun e => Decidable.byContradiction fun hn => c.sym hn e, fun e => Decidable.byContradiction fun hn => c.sym hn e⟩
  have hrm : roomI (encM (cloF l)) S.dt S.y j (marksF l).length = roomI (encM (cloF l)) S.dt S.y j j := by
    have := room_off (A := encM (cloF l)) (dt := S.dt) (y := S.y) (j := j) hoff ((marksF l).length - j)
    rw [show j + ((marksF l).length - j) = (marksF l).length by omega] at this
    exact this
  obtain ⟨rc1, rc2⟩ := room_ch (A := encM (cloF l)) (dt := S.dt) (y := S.y) (j := j) hdt hsym j (Nat.le_refl _)
  rw [← hrm] at rc1 rc2
  have hdj := hoff j (Nat.le_refl _)
  have hMj : (marksF l).getD j 0 = m := by rw [List.getD_eq_getElem?_getD, List.getElem?_eq_getElem hj, hm]; rfl
  have w1 : IntKind.i64.wrap ((j : Int) + 1) = (j : Int) + 1 := wrap_i64 (by omega) (by omega)
  have hfr : ∀ j, h.raw (h.next + j) = none := fun j => hf _ (by omega)
  have zer2' : zerosD [.int .i64 0, .int .i64 0] 2 1 = [D.int 0, D.int 0] := rfl
  have nb : ∀ j, (b5 = h.next + j) = False := fun j => by simp; omega
  have v21' := v21
  have v1' := v1
  simp only [intsD] at v21' v1'
  have hls : (lsF (marksF l) (fillN (encM (cloF l)) (marksF l).length p s00 (j + 1)).y (j + 1)).flatMap dtC = (lsF (marksF l) S.y j).flatMap dtC ++ [D.int m, D.int ((fillN (encM (cloF l)) (marksF l).length p s00 (j + 1)).y j)] := by
    rw [lsF_snoc, hMj, List.flatMap_append, lsF_congr hyq]
    simp [dtC]
  cases hfree : (roomI (encM (cloF l)) S.dt S.y j (marksF l).length).2.2 with
  | true =>
    have e0 : fillS (encM (cloF l)) (marksF l).length p S j = S.put j 0 S.t := by unfold fillS; rw [if_neg (by simp [hdj]), if_pos hfree]
    have hch : chI (encM (cloF l)) S.y j j = (-1000000000, 1000000000) := ch_free j fun q hq => (hsym q).1 (room_free.1 hfree q (by omega) (hdt q hq))
    rw [hch] at v11 v12
    have hyj : (fillN (encM (cloF l)) (marksF l).length p s00 (j + 1)).y j = 0 := by rw [hSn, e0]; simp [Fs.put]
    rw [hyj] at hls
    rcases g7 with ⟨ej, g7⟩ | ⟨ej, k7, g7, gg7, n7⟩
    · have hj0 : (lsF (marksF l) S.y j) = [] := List.eq_nil_of_length_eq_zero (by rw [lsF_len]; exact ej)
      simp [-beq_iff_eq, -bne_iff_ne, -bne_eq_false_iff_eq, k73z, k73q, v1, v5, v8, v9, v10, v11, v12, v21', v22, v23, g7, hfr, zer2', D.cells, D.one, Nat.add_assoc, zerosD, apK_some, List.range_succ, w1, room, maxLen]
      refine ⟨k - 1, by omega, _, _, j + 1, rfl, by omega, by simp [v1], by simp [v5], by simp [hSn, e0, Fs.put, v8], by simp [v21], by simp [v22], by simp, .inr ⟨by omega, h.next + 291, by simp [ej], ?_, by simp <;> omega⟩, by simp [nb, g5], by first | (simp; done) | (simp; omega), ?_⟩
      · rw [hls]; simp [hj0]
      · repeat' first | exact hf | apply Heap.Fr.bump | apply Heap.Fr.set
        all_goals first | omega | (simp <;> omega)
    · have happ := fun t hh news => appS_none (t := t) (et := 80) (sz := 2) (bytes := 16) (h := hh) (m := 1) (news := news) (k := k7) (n := j) (cs := (lsF (marksF l) S.y j).flatMap dtC) (by rw [ls_cells, lsF_len]) (by omega) (by unfold room; omega) (by unfold maxLen; omega)
      have nk7 : ∀ t, (k7 = h.next + t) = False := fun t => by simp; omega
      have nk7' : ∀ t, (h.next + t = k7) = False := fun t => by simp; omega
      have nb7 : (b5 = k7) = False := by
        simp; intro e; rw [e, gg7] at g5; cases g5
      simp [-beq_iff_eq, -bne_iff_ne, -bne_eq_false_iff_eq, k73z, k73q, v1, v5, v8, v9, v10, v11, v12, v21', v22, v23, g7, gg7, nk7, nk7', happ, hfr, zer2', D.cells, D.one, Nat.add_assoc, zerosD, apK_some, List.range_succ, w1]
      refine ⟨k - 1, by omega, _, _, j + 1, rfl, by omega, by simp [v1], by simp [v5], by simp [hSn, e0, Fs.put, v8], by simp [v21], by simp [v22], by simp, .inr ⟨by omega, h.next + 291, by simp, ?_, by simp <;> omega⟩, by simp [nb, nb7, g5], by first | (simp; done) | (simp; omega), ?_⟩
      · rw [hls]; simp [nk7, nk7']
      · repeat' first | exact hf | apply Heap.Fr.bump | apply Heap.Fr.set
        all_goals first | omega | (simp <;> omega)
  | false =>
    obtain ⟨t1, t2, t3, _⟩ := hok.tied c bt hj hdj ho hfree
    rw [rc1, rc2] at t1
    rw [rc1] at t2
    rw [rc2] at t3
    obtain ⟨lo, hlo⟩ : ∃ lo, lo = (chI (encM (cloF l)) S.y j j).1 := ⟨_, rfl⟩
    obtain ⟨hi, hhi⟩ : ∃ hi, hi = (chI (encM (cloF l)) S.y j j).2 := ⟨_, rfl⟩
    rw [← hlo] at v11 t1 t2 rc1
    rw [← hhi] at v12 t1 t3 rc2
    have e0 : fillS (encM (cloF l)) (marksF l).length p S j = S.put j (lo + pickI p S.t (hi - lo + 1)) (S.t + 1) := by unfold fillS; rw [if_neg (by simp [hdj]), if_neg (by simp [hfree]), rc1, rc2]
    have hf' : (hi != 1000000000) = true := by simp; omega
    have c37 := fun h => call_of (h := h) (pg := pg) (f := 72) rfl (by simp [intsD, ints_canonL]) (pkj_run p (by omega) S.t (by omega) (n := n) (by omega))
    have c28 := fun h => call_of (h := h) (pg := pg) (f := 71) (args := [D.int (pkJ p S.t), D.int (hi - lo + 1)]) rfl (by simp) (mod_run (pkJ p S.t) (hi - lo + 1) (by omega) (by omega) (m := n) (by omega))
    rw [← pick_pk (by omega)] at c28
    obtain ⟨r, hr⟩ : ∃ r, pickI p S.t (hi - lo + 1) = r := ⟨_, rfl⟩
    obtain ⟨r1, r2⟩ := pick_in p S.t (c := hi - lo + 1) (by omega)
    rw [hr] at c28 e0 r1 r2
    have x1 : IntKind.i64.wrap (hi - lo) = hi - lo := wrap_i64 (by omega) (by omega)
    have x2 : IntKind.i64.wrap (hi - lo + 1) = hi - lo + 1 := wrap_i64 (by omega) (by omega)
    have x3 : IntKind.i64.wrap (lo + r) = lo + r := wrap_i64 (by omega) (by omega)
    have x4 : IntKind.i64.wrap ((S.t : Int) + 1) = ((S.t + 1 : Nat) : Int) := by rw [wrap_i64 (by omega) (by omega)]; omega
    have hyj : (fillN (encM (cloF l)) (marksF l).length p s00 (j + 1)).y j = lo + r := by rw [hSn, e0]; simp [Fs.put]
    rw [hyj] at hls
    simp only [intsD] at c37
    rcases g7 with ⟨ej, g7⟩ | ⟨ej, k7, g7, gg7, n7⟩
    · have hj0 : (lsF (marksF l) S.y j) = [] := List.eq_nil_of_length_eq_zero (by rw [lsF_len]; exact ej)
      simp [-beq_iff_eq, -bne_iff_ne, -bne_eq_false_iff_eq, k73z, k73q, v5, v8, v9, v10, v11, v12, v21', v22, v23, v1', g7, hf', c37, c28, x1, x2, x3, x4, hfr, zer2', D.cells, D.one, Nat.add_assoc, zerosD, apK_some, List.range_succ, w1, room, maxLen]
      refine ⟨k - 1, by omega, _, _, j + 1, rfl, by omega, by simp [v1], by simp [v5], by simp [hSn, e0, Fs.put], by simp [v21], by simp [v22], by simp, .inr ⟨by omega, h.next + 487, by simp [ej], ?_, by simp <;> omega⟩, by simp [nb, g5], by first | (simp; done) | (simp; omega), ?_⟩
      · rw [hls]; simp [hj0]
      · repeat' first | exact hf | apply Heap.Fr.bump | apply Heap.Fr.set
        all_goals first | omega | (simp <;> omega)
    · have happ := fun t hh news => appS_none (t := t) (et := 80) (sz := 2) (bytes := 16) (h := hh) (m := 1) (news := news) (k := k7) (n := j) (cs := (lsF (marksF l) S.y j).flatMap dtC) (by rw [ls_cells, lsF_len]) (by omega) (by unfold room; omega) (by unfold maxLen; omega)
      have nk7 : ∀ t, (k7 = h.next + t) = False := fun t => by simp; omega
      have nk7' : ∀ t, (h.next + t = k7) = False := fun t => by simp; omega
      have nb7 : (b5 = k7) = False := by
        simp; intro e; rw [e, gg7] at g5; cases g5
      simp [-beq_iff_eq, -bne_iff_ne, -bne_eq_false_iff_eq, k73z, k73q, v5, v8, v9, v10, v11, v12, v21', v22, v23, v1', g7, gg7, nk7, nk7', happ, hf', c37, c28, x1, x2, x3, x4, hfr, zer2', D.cells, D.one, Nat.add_assoc, zerosD, apK_some, List.range_succ, w1]
      refine ⟨k - 1, by omega, _, _, j + 1, rfl, by omega, by simp [v1], by simp [v5], by simp [hSn, e0, Fs.put], by simp [v21], by simp [v22], by simp, .inr ⟨by omega, h.next + 487, by simp, ?_, by simp <;> omega⟩, by simp [nb, nb7, g5], by first | (simp; done) | (simp; omega), ?_⟩
      · rw [hls]; simp [nk7, nk7']
      · repeat' first | exact hf | apply Heap.Fr.bump | apply Heap.Fr.set
        all_goals first | omega | (simp <;> omega)
set_option maxHeartbeats 8000000 in
theorem cho_marks (l : List Clm) (h0 : OkW l) (hbad : badF l = false) (p : List Int) (hp : p.length ≤ 4000000000000000000) (b5 : Nat) : ∀ n, 100 ≤ n → ∀ k s, C1J l p b5 k s → Res (k30l1.ev ⟨pg, 98, none⟩ (rc pg n) s) (Rnd (C1J l p b5) (fun x s => x = .exit 0 ∧ C1J l p b5 0 s) k) := by
  rintro n hn k s ⟨x, h, j, rfl, hjk, v1, v5, v8, v21, v22, v23, g7, g5, n5, hf⟩
  have hl := h0.n64
  have bt := cloww_small h0 hbad
  have c := cloww_clsd h0 hbad
  have ho := cloww_out h0
  have hA := enc_bd bt
  have v21' := v21
  simp only [intsD] at v21'
  by_cases hj : j < (marksF l).length
  · obtain ⟨S, hS⟩ : ∃ S, S = fillN (encM (cloF l)) (marksF l).length p s00 j := ⟨_, rfl⟩
    have hok := (fillN_ok (f00 (marksF l).length (cloF l)) c bt ho p j (by omega)).1
    have hdt := (fillN_ok (f00 (marksF l).length (cloF l)) c bt ho p j (by omega)).2
    rw [← hS] at hok hdt v8 g7
    have hyb : ∀ q, q < j → -200000000 ≤ S.y q ∧ S.y q ≤ 200000000 := fun q hq => hok.bd c bt (by omega) (hdt q hq)
    obtain ⟨m, hm⟩ : ∃ m, (marksF l)[j] = m := ⟨_, rfl⟩
    have hlen7 : x.v 7 = .val (.slice none 0 0) ∧ j = 0 ∨ ∃ k7, x.v 7 = .slr k7 0 j 2 none := by
      rcases g7 with ⟨e, g⟩ | ⟨_, k7, g, _⟩
      · exact .inl ⟨g, e⟩
      · exact .inr ⟨k7, g⟩
    rcases hlen7 with ⟨e7, ej⟩ | ⟨k7, e7⟩
    · subst ej
      simp [k73l1_eq, v1, v5, v8, v21', v22, v23, hj, hm, e7, D.cells, D.one, ev_loop]
      refine Res.in3 (lp_rule 1 (C0I (encM (cloF l)) S.y 0 _ _) _ (cho_round (marksF l) hl (encM (cloF l)) hA S.y 0 hj (fun q hq => by have := hyb q hq; omega) _ _ b5 (.val (.slice none 0 0)) (by simp [v5]) (by simp [g5]) (by simp [e7]) (by rw [← e7]; exact g7.keep (by simp <;> omega) (fun q _ => by simp)) (by simp)) 0 n _ (by omega) ⟨_, _, 0, rfl, by omega, fun q _ => rfl, fun q _ _ => rfl, by simp, by simp, by simp [chI], by simp [chI], fun q => rfl, Nat.le_refl _, by
        repeat' first | exact hf | apply Heap.Fr.bump⟩) ?_
      rintro xo so ⟨rfl, x', h', K, rfl, hK, sm, sm2, w29, w30, w11, w12, hh, hnx, hf'⟩
      obtain rfl : K = 0 := by omega
      simp only [blockK_exit, if_true, andThen_normal]
      exact cho_tail l h0 hbad p hp b5 hn hj hjk S hS x' h' m hm (by rw [sm 1 (by omega)]; simp [v1]) (by rw [sm 5 (by omega)]; simp [v5]) (by rw [sm 8 (by omega)]; simp [v8]) (by rw [sm 9 (by omega)]; simp) (by rw [sm 10 (by omega)]; simp) w11 w12 (by rw [sm2 21 (by omega) (by omega)]; simp [v21]) (by rw [sm2 22 (by omega) (by omega)]; simp [v22]) (by rw [sm2 23 (by omega) (by omega)]; simp [v23]) (by
        have e : x'.v 7 = x.v 7 := by rw [sm 7 (by omega)]; simp
        rw [e]; exact g7.keep (by simp at hnx; omega) (fun q _ => by rw [hh]; simp)) (by rw [hh]; simp [g5]) (by simp at hnx; omega) hf'
    · skip
      simp [k73l1_eq, v1, v5, v8, v21', v22, v23, hj, hm, e7, D.cells, D.one, ev_loop]
      refine Res.in3 (lp_rule 1 (C0I (encM (cloF l)) S.y j _ _) _ (cho_round (marksF l) hl (encM (cloF l)) hA S.y j hj (fun q hq => by have := hyb q hq; omega) _ _ b5 (.slr k7 0 j 2 none) (by simp [v5]) (by simp [g5]) (by simp [e7]) (by rw [← e7]; exact g7.keep (by simp <;> omega) (fun q _ => by simp)) (by simp)) j n _ (by omega) ⟨_, _, 0, rfl, by omega, fun q _ => rfl, fun q _ _ => rfl, by simp, by simp, by simp [chI], by simp [chI], fun q => rfl, Nat.le_refl _, by
        repeat' first | exact hf | apply Heap.Fr.bump⟩) ?_
      rintro xo so ⟨rfl, x', h', K, rfl, hK, sm, sm2, w29, w30, w11, w12, hh, hnx, hf'⟩
      have hKj : K = j := by omega
      subst hKj
      simp only [blockK_exit, if_true, andThen_normal]
      exact cho_tail l h0 hbad p hp b5 hn hj hjk S hS x' h' m hm (by rw [sm 1 (by omega)]; simp [v1]) (by rw [sm 5 (by omega)]; simp [v5]) (by rw [sm 8 (by omega)]; simp [v8]) (by rw [sm 9 (by omega)]; simp) (by rw [sm 10 (by omega)]; simp) w11 w12 (by rw [sm2 21 (by omega) (by omega)]; simp [v21]) (by rw [sm2 22 (by omega) (by omega)]; simp [v22]) (by rw [sm2 23 (by omega) (by omega)]; simp [v23]) (by
        have e : x'.v 7 = x.v 7 := by rw [sm 7 (by omega)]; simp
        rw [e]; exact g7.keep (by simp at hnx; omega) (fun q _ => by rw [hh]; simp)) (by rw [hh]; simp [g5]) (by simp at hnx; omega) hf'
  · simp [k73l1_eq, v22, v23, hj]
    exact ⟨_, _, j, rfl, by omega, by simp [v1], by simp [v5], by simp [v8], by simp [v21], by simp [v22], by simp [v23], by simpa using g7.keep (h' := h.bump 98) (by simp) (fun q _ => by simp), by simp [g5], by simp; omega, hf.bump _⟩
end Go.Proofs.YtfemldhlanoakaaGreatDoor
/- The program's chronology is the document's: the law, by the evaluator. -/
namespace Go.Proofs.YtfemldhlanoakaaGreatDoor
open Go Go.Em Go.Em.Net
set_option maxRecDepth 100000
set_option maxHeartbeats 8000000 in
theorem chosen_run (l : List Clm) (h0 : OkW l) (hbad : badF l = false) (hl0 : l ≠ []) (p : List Int) (hp : p.length ≤ 4000000000000000000) {f : Nat} (hf : 4000 ≤ f) : pureCall (rc pg f) 30 [clsD l, intsD p] = some (.ret (dtsD (lsF (marksF l) (chrY l p) (marksF l).length))) := by
  obtain ⟨m, rfl, e⟩ := body (pg := pg) (f := 30) (args := [clsD l, intsD p]) (show 0 < f by omega) rfl rfl
  rw [e]
  have hl := h0.n64
  have hn0 : 0 < (marksF l).length := by
    cases l with
    | nil => exact absurd rfl hl0
    | cons c l => exact List.length_pos_of_mem ((marks_mem (c :: l) c.a).2 ⟨c, List.mem_cons_self, .inl rfl⟩)
  obtain ⟨B, e67, hB⟩ := rclo_run l h0 hl0 (f := m) (by omega)
  have hB' := hB hbad
  subst hB'
  have c67 := fun h => call_of (h := h) (pg := pg) (f := 50) rfl (cls_canon l) e67
  simp only [clsD, nD, intsD, rowsD] at c67
  simp [-beq_iff_eq, k30, Env.v_ini, clsD, intsD, c67, D.cells, D.one, ev_loop]
  refine Res.endsAfter (lp_rule 100 (C1J l p 103) _ (cho_marks l h0 hbad p hp 103) (marksF l).length m _ (by omega) ⟨_, _, 0, rfl, by omega, by simp [Env.v_ini, intsD], by simp, by simp [fillN, s00], by simp [intsD], by simp, by simp, by simp [GZ], by simp [intsD, rowsD], by simp, ?_⟩) ?_
  · repeat' first | exact Heap.Fr.empty | apply Heap.Fr.bump | apply Heap.Fr.set
    all_goals first | omega | (simp <;> omega)
  · rintro xo so ⟨rfl, x', h', j, rfl, hj, w1, w5, w8, w21, w22, w23, g7, g5, n5, hf'⟩
    have hjn : j = (marksF l).length := by omega
    subst hjn
    rcases g7 with ⟨e0, _⟩ | ⟨_, k7, g7, gg7, n7⟩
    · omega
    have hz := dts_frz (lsF (marksF l) (chrY l p) (marksF l).length) (n := (marksF l).length) (lb := k7) (h := h'.bump 98) (by rw [lsF_len]) (by simpa [chrY] using gg7) 21
    simp only [frz_slr, Nat.reduceAdd, Heap.get_bump] at hz
    simp [g7, hz]
end Go.Proofs.YtfemldhlanoakaaGreatDoor
