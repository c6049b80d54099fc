/- Series: Moving, by the program and by the document. -/
import Derived.Test.YtgbkdjlekfjkfaaGreatDoorFm3
namespace Go.Proofs.YtgbkdjlekfjkfaaGreatDoor
open Go Go.Em
set_option maxRecDepth 100000
theorem GM.frz3 {h : Heap} {d : D} {L : List Pr} (g : GM h d L) : ∃ ks, Go.Em.frz h 23 d = some (frsD L, ks) := by
  rcases g with ⟨rfl, rfl⟩ | ⟨k, rfl, g, _⟩
  · exact ⟨[], rfl⟩
  · refine ⟨k :: [], ?_⟩
    have hea := each_canon h 21 (L.flatMap frC) (canonL_flatMap frC (fun c => by simp [frC]) L)
    have hc : (L.flatMap frC).take (L.length * 2) = L.flatMap frC := List.take_of_length_le (by rw [cells_frs]; omega)
    show Go.Em.frz h (22 + 1) _ = _
    rw [frz_slr, g, frzS_cells]
    simp only [List.drop_zero, hc, hea, Option.map_some, fr_chunk L _ rfl, Nat.zero_add]
    rw [if_pos ⟨by rw [cells_frs]; omega, by omega⟩]; rfl
def movR (l : List Int) (W : Int) : D := if serF l = true then if inR W 1 l.length = true then .tup [frsD (movP l W.toNat (l.length - W.toNat + 1)), D.int 0] else .tup [frsD [], D.int 63] else .tup [frsD [], D.int 62]
set_option maxHeartbeats 4000000 in
theorem moving_run (l : List Int) (W : Int) {n : Nat} (hn : 1000004000 ≤ n) : pureCall (rc pg n) 33 [intsD l, D.int W] = some (.ret (movR l W)) := by
  obtain ⟨m, rfl, e⟩ := body (pg := pg) (f := 33) (args := [intsD l, D.int W]) (show 0 < n by omega) rfl rfl
  rw [e]
  have c := fun h => call_of (h := h) (pg := pg) (f := 93) rfl (ints_can l) (series_run l (n := m) (by omega))
  have hw := @within_run m (by omega)
  unfold movR
  simp only [intsD] at c
  cases hs : serF l with
  | false =>
    rw [hs] at c
    simp [k33, Env.v_ini, intsD, c, frsD]
  | true =>
    rw [hs] at c
    obtain ⟨ok, h1⟩ := ser_ok hs
    cases hi : inR W 1 l.length with
    | false => simp [k33, Env.v_ini, intsD, c, hw, hi, frsD]
    | true =>
      have hWr : 1 ≤ W ∧ W ≤ l.length := by unfold inR at hi; simpa using hi
      obtain ⟨w, rfl⟩ : ∃ w : Nat, W = w := ⟨W.toNat, by omega⟩
      have hl1 := ok.1
      have w1 : IntKind.i64.wrap ((l.length : Int) - w) = (l.length : Int) - w := wrap_i64 (by omega) (by omega)
      have w2 : IntKind.i64.wrap ((l.length : Int) - w + 1) = ((l.length - w + 1 : Nat) : Int) := by rw [wrap_i64 (by omega) (by omega)]; omega
      simp [k33, Env.v_ini, intsD, c, hw, hi, ev_loop, w1, w2]
      refine Res.endsAfter (lp_rule 1000002000 (MvI l w) _ (mv_round l ok w (by omega) (by omega)) (l.length - w + 1) m _ (by omega) ⟨_, _, 0, .val (.slice none 0 0), rfl, by omega, by simp [Env.v_ini, intsD], by simp [Env.v_ini], by simp, by simp, by simp, .inl ⟨rfl, rfl⟩, ?_⟩) ?_
      · repeat' first | exact Heap.Fr.empty | apply Heap.Fr.bump | apply Heap.Fr.set
      · rintro x s ⟨rfl, x, h, i, d, rfl, hi, v0, v1, v22, v23, v6, hd, hf⟩
        have hil : i = l.length - w + 1 := by omega
        subst hil
        obtain ⟨ks, hz⟩ := GM.frz3 (hd.keep (h' := h.bump 42) (by simp) (by simp))
        simp only [frsD] at hz ⊢
        simp [v6]
        rw [hz]
        exact ⟨_, rfl⟩
def RvI (l : List Int) (w : Nat) (k : Nat) (s : St) : Prop := ∃ (x : Env 35) (h : Heap) (i : Nat) (d : D), s = ⟨x.l, h, []⟩ ∧ i + k = l.length - w + 1 ∧ x.v 0 = intsD l ∧ x.v 1 = D.int w ∧ x.v 7 = D.int i ∧ x.v 6 = d ∧ GM h d (movP l w i) ∧ h.Fr
set_option maxHeartbeats 4000000 in
theorem rv_round (l : List Int) (ok : OkS l) (w : Nat) (hw1 : 1 ≤ w) (hwl : w ≤ l.length) : ∀ n, 1000002000 ≤ n → ∀ k s, RvI l w k s → Res (k34l0.ev ⟨pg, 35, none⟩ (rc pg n) s) (Rnd (RvI l w) (fun x s => x = .exit 0 ∧ RvI l w 0 s) k) := by
  rintro n hn k s ⟨x, h, i, d, rfl, hik, v0, v1, v7, v6, hd, hf⟩
  have hl1 := ok.1
  simp only [intsD] at v0
  have w2 : IntKind.i64.wrap ((i : Int) + w) = (i : Int) + w := wrap_i64 (by omega) (by omega)
  by_cases hi : i < l.length - w + 1
  · have hiw : i + w ≤ l.length := by omega
    have wl := win_len hiw
    have okw : OkS (win l w i) := ok.part i w
    have mr := rmean_run (win l w i) okw (by omega) (n := n) (by omega)
    rw [men_frD okw (by omega)] at mr
    have mk := fun h => call_of (h := h) (pg := pg) (f := 95) rfl (ints_can (win l w i)) mr
    have hsn := mov_snoc l w i
    have hml := mov_len l w i
    obtain ⟨P, hP⟩ : ∃ P, P = meP (win l w i) := ⟨_, rfl⟩
    obtain ⟨O, hO⟩ : ∃ O, O = movP l w i := ⟨_, rfl⟩
    rw [← hP] at mk hsn
    rw [← hO] at hsn hml hd
    simp only [intsD, frD] at mk
    have w1 : IntKind.i64.wrap ((i : Int) + 1) = (i : Int) + 1 := wrap_i64 (by omega) (by omega)
    have hfr : ∀ j, h.raw (h.next + j) = none := fun j => hf _ (by omega)
    have c1 : (i : Int) ≤ (i : Int) + w := by omega
    have c2 : (i : Int) + w ≤ (l.length : Int) := by omega
    have hh1 := head_ints l
    have tk : ((i : Int) + (w : Int)).toNat - i = w := by omega
    have mt : List.take w (List.drop i (l.map D.int)) = (win l w i).map D.int := by unfold win; rw [List.map_take, List.map_drop]
    have hO48 : (O.length + 1) * 16 ≤ 140737488355328 := by omega
    have hcell : (O.flatMap frC) ++ frC P = (O ++ [P]).flatMap frC := by simp
    rcases hd with ⟨hO0, rfl⟩ | ⟨kk, rfl, hg, hkk⟩
    · subst hO0
      simp [k34l0, v0, v1, v7, v6, w1, w2, D.cells, D.one, hfr, Nat.add_assoc, c1, c2, tk, mt, hh1, mk, zerosD, apK_some, room, maxLen, List.range_succ]
      refine ⟨k - 1, by omega, _, _, i + 1, .slr (h.next + 68) 0 1 2 none, rfl, by omega, by simp [v0, intsD], by simp [v1], by simp, by simp, .inr ⟨h.next + 68, by simp [hsn], by simp [hsn, frC], by simp <;> omega⟩, ?_⟩
      repeat' first | exact hf | apply Heap.Fr.bump | apply Heap.Fr.set
      all_goals (simp <;> omega)
    · have ne1 : ∀ j, (h.next + j = kk) = False := fun j => by simp; omega
      have ne2 : ∀ j, (kk = h.next + j) = False := fun j => by simp; omega
      have happ := fun t hh news => appS_none (t := t) (et := 48) (sz := 2) (bytes := 16) (h := hh) (m := 1) (news := news) (k := kk) (n := O.length) (cs := O.flatMap frC) (cells_frs O) (by omega) (by unfold room; omega) (by unfold maxLen; omega)
      simp [k34l0, v0, v1, v7, v6, w1, w2, D.cells, D.one, hfr, Nat.add_assoc, c1, c2, tk, mt, hh1, mk, zerosD, apK_some, List.range_succ, hg, ne1, ne2, happ]
      refine ⟨k - 1, by omega, _, _, i + 1, .slr (h.next + 68) 0 (O.length + 1) 2 none, rfl, by omega, by simp [v0, intsD], by simp [v1], by simp, by simp, .inr ⟨h.next + 68, by simp [hsn], by simp [hsn, frC], by simp <;> omega⟩, ?_⟩
      repeat' first | exact hf | apply Heap.Fr.bump | apply Heap.Fr.set
      all_goals (simp <;> omega)
  · have c2 : ¬ (i : Int) + w ≤ (l.length : Int) := by omega
    simp [k34l0, v0, v1, v7, w2, c2]
    exact ⟨_, _, i, d, rfl, by omega, by simp [v0, intsD], by simp [v1], by simp [v7], by simp [v6], hd.keep (by simp) (by simp), hf.bump _⟩
set_option maxHeartbeats 4000000 in
theorem rmoving_run (l : List Int) (hl : l.length ≤ 20000000000000) (W : Int) {n : Nat} (hn : l.length + 1000004000 ≤ n) : pureCall (rc pg n) 34 [intsD l, D.int W] = some (.ret (movR l W)) := by
  obtain ⟨m, rfl, e⟩ := body (pg := pg) (f := 34) (args := [intsD l, D.int W]) (show 0 < n by omega) rfl rfl
  rw [e]
  have c := fun h => call_of (h := h) (pg := pg) (f := 94) rfl (ints_can l) (rseries_run l hl (n := m) (by omega))
  have hw := @rwithin_run m (by omega)
  unfold movR
  simp only [intsD] at c
  cases hs : serF l with
  | false =>
    rw [hs] at c
    simp [k34, Env.v_ini, intsD, c, frsD]
  | true =>
    rw [hs] at c
    obtain ⟨ok, h1⟩ := ser_ok hs
    cases hi : inR W 1 l.length with
    | false => simp [k34, Env.v_ini, intsD, c, hw, hi, frsD]
    | true =>
      have hWr : 1 ≤ W ∧ W ≤ l.length := by unfold inR at hi; simpa using hi
      obtain ⟨w, rfl⟩ : ∃ w : Nat, W = w := ⟨W.toNat, by omega⟩
      have hl1 := ok.1
      simp [k34, Env.v_ini, intsD, c, hw, hi, ev_loop]
      refine Res.endsAfter (lp_rule 1000002000 (RvI l w) _ (rv_round l ok w (by omega) (by omega)) (l.length - w + 1) m _ (by omega) ⟨_, _, 0, .val (.slice none 0 0), rfl, by omega, by simp [Env.v_ini, intsD], by simp [Env.v_ini], by simp, by simp, .inl ⟨rfl, rfl⟩, ?_⟩) ?_
      · repeat' first | exact Heap.Fr.empty | apply Heap.Fr.bump | apply Heap.Fr.set
      · rintro x s ⟨rfl, x, h, i, d, rfl, hi, v0, v1, v7, v6, hd, hf⟩
        have hil : i = l.length - w + 1 := by omega
        subst hil
        obtain ⟨ks, hz⟩ := GM.frz3 (hd.keep (h' := h.bump 35) (by simp) (by simp))
        simp only [frsD] at hz ⊢
        simp [v6]
        rw [hz]
        exact ⟨_, rfl⟩
end Go.Proofs.YtgbkdjlekfjkfaaGreatDoor
