/- Series: Moving, by the program and by the document. -/
import Derived.Test.YtngjpeoloaeneaaGreatDoorFm1
import Derived.Test.YtngjpeoloaeneaaGreatDoorFc3
namespace Go.Proofs.YtngjpeoloaeneaaGreatDoor
open Go Go.Em
set_option maxRecDepth 100000
theorem GM.frz3 {h : Heap} {d : D} {L : List Pr} (g : GM h d L) : ∃ ks, Go.Em.frz h 23 d = some (frsD L, ks) := by
  rcases g with ⟨rfl, rfl⟩ | ⟨k, rfl, g, _⟩
  · exact ⟨[], rfl⟩
  · refine ⟨k :: [], ?_⟩
    have hea := each_canon h 21 (L.flatMap frC) (canonL_flatMap frC (fun c => by simp [frC]) L)
    have hc : (L.flatMap frC).take (L.length * 2) = L.flatMap frC := List.take_of_length_le (by rw [cells_frs]; omega)
    show Go.Em.frz h (22 + 1) _ = _
    rw [frz_slr, g, frzS_cells]
    simp only [List.drop_zero, hc, hea, Option.map_some, fr_chunk L _ rfl, Nat.zero_add]
    rw [if_pos ⟨by rw [cells_frs]; omega, by omega⟩]; rfl
def movR (l : List Int) (W : Int) : D := if serF l = true then if inR W 1 l.length = true then .tup [frsD (movP l W.toNat (l.length - W.toNat + 1)), D.int 0] else .tup [frsD [], D.int 63] else .tup [frsD [], D.int 62]
set_option maxHeartbeats 4000000 in
theorem moving_run (l : List Int) (W : Int) {n : Nat} (hn : 1000004000 ≤ n) : pureCall (rc pg n) 34 [intsD l, D.int W] = some (.ret (movR l W)) := by
  obtain ⟨m, rfl, e⟩ := body (pg := pg) (f := 34) (args := [intsD l, D.int W]) (show 0 < n by omega) rfl rfl
  rw [e]
  have c := fun h => call_of (h := h) (pg := pg) (f := 60) rfl (ints_can l) (series_run l (n := m) (by omega))
  have hw := @within_run m (by omega)
  unfold movR
  simp only [intsD] at c
  cases hs : serF l with
  | false =>
    rw [hs] at c
    simp [k34, Env.v_ini, intsD, c, frsD]
  | true =>
    rw [hs] at c
    obtain ⟨ok, h1⟩ := ser_ok hs
    cases hi : inR W 1 l.length with
    | false => simp [k34, Env.v_ini, intsD, c, hw, hi, frsD]
    | true =>
      have hWr : 1 ≤ W ∧ W ≤ l.length := by unfold inR at hi; simpa using hi
      obtain ⟨w, rfl⟩ : ∃ w : Nat, W = w := ⟨W.toNat, by omega⟩
      have hl1 := ok.1
      have w1 : IntKind.i64.wrap ((l.length : Int) - w) = (l.length : Int) - w := wrap_i64 (by omega) (by omega)
      have w2 : IntKind.i64.wrap ((l.length : Int) - w + 1) = ((l.length - w + 1 : Nat) : Int) := by rw [wrap_i64 (by omega) (by omega)]; omega
      simp [k34, Env.v_ini, intsD, c, hw, hi, ev_loop, w1, w2]
      refine Res.endsAfter (lp_rule 1000002000 (MvI l w) _ (mv_round l ok w (by omega) (by omega)) (l.length - w + 1) m _ (by omega) ⟨_, _, 0, .val (.slice none 0 0), rfl, by omega, by simp [Env.v_ini, intsD], by simp [Env.v_ini], by simp, by simp, by simp, .inl ⟨rfl, rfl⟩, ?_⟩) ?_
      · repeat' first | exact Heap.Fr.empty | apply Heap.Fr.bump | apply Heap.Fr.set
      · rintro x s ⟨rfl, x, h, i, d, rfl, hi, v0, v1, v22, v23, v6, hd, hf⟩
        have hil : i = l.length - w + 1 := by omega
        subst hil
        obtain ⟨ks, hz⟩ := GM.frz3 (hd.keep (h' := h.bump 42) (by simp) (by simp))
        simp only [frsD] at hz ⊢
        simp [v6]
        rw [hz]
        exact ⟨_, rfl⟩
end Go.Proofs.YtngjpeoloaeneaaGreatDoor
/- Fractions in order: the first of the largest, by the library and by the document. -/
namespace Go.Proofs.YtngjpeoloaeneaaGreatDoor
open Go Go.Em
set_option maxRecDepth 100000
def cm (p q : Pr) : Int := cmR p.1 p.2 q.1 q.2
def okP (p : Pr) : Prop := okR p.1 p.2 = true
theorem cm_eq {p q : Pr} (hp : okP p) (hq : okP q) : cm p q = sgn (p.1 * q.2) (q.1 * p.2) := by
  unfold okP at hp hq
  unfold cm cmR
  rw [hp, hq]; rfl
theorem cm_pos {p q : Pr} (hp : okP p) (hq : okP q) : 0 < cm p q ↔ q.1 * p.2 < p.1 * q.2 := by
  rw [cm_eq hp hq]
  unfold sgn
  split
  · constructor <;> intro h <;> omega
  · split
    · constructor <;> intro h <;> omega
    · constructor <;> intro h <;> omega
theorem le_trans3 {a b c d e f : Int} (hb : 0 < b) (hd : 0 < d) (hf : 0 < f) (h1 : a * d ≤ c * b) (h2 : c * f < e * d) : a * f ≤ e * b := by
  have t1 : a * d * f ≤ c * b * f := Int.mul_le_mul_of_nonneg_right h1 (by omega)
  have t2 : c * f * b ≤ e * d * b := Int.mul_le_mul_of_nonneg_right (by omega) (by omega)
  have t3 : a * f * d ≤ e * b * d := by
    have x1 : a * f * d = a * d * f := by rw [Int.mul_assoc, Int.mul_assoc, Int.mul_comm f d]
    have x2 : e * b * d = e * d * b := by rw [Int.mul_assoc, Int.mul_assoc, Int.mul_comm b d]
    have x3 : c * b * f = c * f * b := by rw [Int.mul_assoc, Int.mul_assoc, Int.mul_comm b f]
    omega
  exact Int.le_of_mul_le_mul_right t3 hd
theorem ok_den {p : Pr} (h : okP p) : 0 < p.2 := by have := okR_sm h; omega
def gt (L : List Pr) (i : Nat) : Pr := L.getD i (0, 0)
theorem gt_eq {L : List Pr} {i : Nat} (h : i < L.length) : gt L i = L[i] := by unfold gt; simp [List.getD_eq_getElem?_getD, List.getElem?_eq_getElem h]
def bst (L : List Pr) : Nat → Nat
  | 0 => 0
  | n + 1 => if 0 < cm (gt L (n + 1)) (gt L (bst L n)) then n + 1 else bst L n
theorem bst_le (L : List Pr) : ∀ n, bst L n ≤ n
  | 0 => Nat.le_refl _
  | n + 1 => by
    have := bst_le L n
    unfold bst
    split <;> omega
theorem bst_max {L : List Pr} (ok : ∀ i, i < L.length → okP (gt L i)) : ∀ n, n < L.length → ∀ j, j ≤ n → (gt L j).1 * (gt L (bst L n)).2 ≤ (gt L (bst L n)).1 * (gt L j).2
  | 0, _, j, hj => by
    have : j = 0 := by omega
    subst this
    exact Int.le_of_eq rfl
  | n + 1, hn, j, hj => by
    have ih := bst_max ok n (by omega)
    have hb := bst_le L n
    have okn := ok (n + 1) hn
    have okb := ok (bst L n) (by omega)
    unfold bst
    split
    · next hc =>
      rw [cm_pos okn okb] at hc
      by_cases hjn : j = n + 1
      · subst hjn; exact Int.le_of_eq rfl
      · have okj := ok j (by omega)
        exact le_trans3 (ok_den okj) (ok_den okb) (ok_den okn) (ih j (by omega)) hc
    · next hc =>
      rw [cm_pos okn okb] at hc
      by_cases hjn : j = n + 1
      · subst hjn; omega
      · exact ih j (by omega)
theorem bst_first {L : List Pr} (ok : ∀ i, i < L.length → okP (gt L i)) : ∀ n, n < L.length → ∀ j, j < bst L n → gt L j ≠ gt L (bst L n)
  | 0, _, j, hj => by simp [bst] at hj
  | n + 1, hn, j, hj => by
    have ih := bst_first ok n (by omega)
    have hm := bst_max ok n (by omega)
    have hb := bst_le L n
    have okn := ok (n + 1) hn
    have okb := ok (bst L n) (by omega)
    unfold bst at hj ⊢
    split at hj
    · next hc =>
      rw [if_pos hc]
      rw [cm_pos okn okb] at hc
      intro he
      have := hm j (by omega)
      rw [he] at this
      omega
    · next hc =>
      rw [if_neg hc]
      exact ih j hj
theorem frs_canonL (L : List Pr) : D.canonL (L.map fun p => frD p.1 p.2) = true := canonL_map (fun p : Pr => frD p.1 p.2) (fun p => fr_canon p.1 p.2) L
theorem ok_me {l : List Int} (h : OkS l) (h1 : 1 ≤ l.length) : okP (meP l) := by
  have hs := sum_bd h.2
  have h2 := h.1
  have hd : (l.length : Int) ≠ 0 := by omega
  have gp := gc_pos (n := l.sum) hd
  have dv : ((gcF l.sum l.length : Nat) : Int) ∣ (l.length : Int) := Int.natCast_dvd_natCast.2 (Nat.gcd_dvd_right _ _)
  unfold okP okR meP mkN mkQ sgF
  simp only [if_neg (show ¬ (l.length : Int) < 0 by omega)]
  obtain ⟨g, hg⟩ : ∃ g, g = gcF l.sum l.length := ⟨_, rfl⟩
  rw [← hg] at gp dv ⊢
  have a : Sm (l.sum.tdiv g) := tdiv_sm _ (by unfold Sm; omega)
  have b : Sm ((l.length : Int).tdiv g) := tdiv_sm _ (by unfold Sm; omega)
  have c : 0 < (l.length : Int).tdiv g := by
    obtain ⟨k, hk⟩ := dv
    obtain ⟨n, hn⟩ : ∃ n : Int, n = l.length := ⟨_, rfl⟩
    rw [← hn] at hk hd ⊢
    have hn0 : 0 < n := by omega
    subst hk
    rw [Int.mul_tdiv_cancel_left _ (by omega)]
    by_cases hk0 : 0 < k
    · exact hk0
    · have := Int.mul_nonpos_of_nonneg_of_nonpos (show 0 ≤ (g : Int) by omega) (show k ≤ 0 by omega)
      omega
  unfold Sm at a b
  unfold inR
  rw [Bool.and_eq_true]
  exact ⟨decide_eq_true (by omega), decide_eq_true (by omega)⟩
theorem gt_mov (l : List Int) (w n i : Nat) (hi : i < n) : gt (movP l w n) i = meP (win l w i) := by
  unfold gt movP
  simp [List.getD_eq_getElem?_getD, hi]
theorem ok_mov {l : List Int} (h : OkS l) {w : Nat} (hw : 1 ≤ w) {n : Nat} (hn : n + w ≤ l.length + 1) : ∀ i, i < (movP l w n).length → okP (gt (movP l w n) i) := by
  intro i hi
  rw [mov_len] at hi
  rw [gt_mov l w n i hi]
  exact ok_me (h.part i w) (by have := win_len (l := l) (w := w) (i := i) (by omega); unfold win at this ⊢; omega)
end Go.Proofs.YtngjpeoloaeneaaGreatDoor
