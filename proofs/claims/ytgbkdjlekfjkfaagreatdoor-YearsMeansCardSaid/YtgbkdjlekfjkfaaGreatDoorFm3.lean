/- Series: the means of all windows, by the program and by the document. -/
import Derived.Test.YtgbkdjlekfjkfaaGreatDoorFm2
namespace Go.Proofs.YtgbkdjlekfjkfaaGreatDoor
open Go Go.Em
set_option maxRecDepth 100000
abbrev Pr := Int × Int
def frC (p : Pr) : List D := [D.int p.1, D.int p.2]
def frsD (L : List Pr) : D := .sl false (L.map fun p => frD p.1 p.2)
def meP (l : List Int) : Pr := (mkN l.sum l.length, mkQ l.sum l.length)
theorem men_frD {l : List Int} (h : OkS l) (h1 : 1 ≤ l.length) : menP l = frD (meP l).1 (meP l).2 := by
  unfold menP mkP
  rw [mk_ok h h1]; rfl
theorem ok_ser {l : List Int} (h : OkS l) (h1 : 1 ≤ l.length) : serF l = true := by
  unfold serF
  have a : inR l.length 1 400 = true := by unfold inR; have := h.1; exact decide_eq_true (by omega)
  have b : l.any outR = false := by
    rw [List.any_eq_false]
    intro t ht
    have := h.2 t ht
    unfold outR inR
    simp; omega
  rw [a, b]; rfl
theorem head_ints : ∀ l : List Int, headOk 1 (l.map D.int) = true := by
  intro l; cases l <;> simp [headOk, D.cells]
def win (l : List Int) (w i : Nat) : List Int := (l.drop i).take w
theorem win_len {l : List Int} {w i : Nat} (h : i + w ≤ l.length) : (win l w i).length = w := by unfold win; simp; omega
def movP (l : List Int) (w n : Nat) : List Pr := (List.range n).map fun i => meP (win l w i)
theorem mov_snoc (l : List Int) (w n : Nat) : movP l w (n + 1) = movP l w n ++ [meP (win l w n)] := by unfold movP; rw [List.range_succ, List.map_append]; rfl
theorem mov_len (l : List Int) (w n : Nat) : (movP l w n).length = n := by simp [movP]
theorem cells_frs : ∀ L : List Pr, (L.flatMap frC).length = L.length * 2 := fun L => length_flatMap frC (fun _ => rfl) L
theorem fr_chunk (L : List Pr) (n : Nat) (hn : n = L.length) : chunk 2 n (L.flatMap frC) = L.map fun p => frD p.1 p.2 := chunk_flatMap frC (by decide) (fun _ => rfl) L n hn
def GM (h : Heap) (d : D) (L : List Pr) : Prop := (L = [] ∧ d = .val (.slice none 0 0)) ∨ ∃ k, d = .slr k 0 L.length 2 none ∧ h.get k = some (.cells 48 (L.flatMap frC)) ∧ k < h.next
theorem GM.keep {h h' : Heap} {d : D} {L : List Pr} (g : GM h d L) (hn : h.next ≤ h'.next) (hk : ∀ k, k < h.next → h'.get k = h.get k) : GM h' d L := by
  rcases g with g | ⟨k, a, b, c⟩
  · exact .inl g
  · exact .inr ⟨k, a, by rw [hk k c]; exact b, by omega⟩
theorem GM.frz {h : Heap} {d : D} {L : List Pr} (g : GM h d L) : ∃ ks, frz h depth d = some (frsD L, ks) := by
  rcases g with ⟨rfl, rfl⟩ | ⟨k, rfl, g, _⟩
  · exact ⟨[], rfl⟩
  · refine ⟨k :: [], ?_⟩
    have hea := each_canon h 22 (L.flatMap frC) (canonL_flatMap frC (fun c => by simp [frC]) L)
    have hc : (L.flatMap frC).take (L.length * 2) = L.flatMap frC := List.take_of_length_le (by rw [cells_frs]; omega)
    show Go.Em.frz h (23 + 1) _ = _
    rw [frz_slr, g, frzS_cells]
    simp only [List.drop_zero, hc, hea, Option.map_some, fr_chunk L _ rfl, Nat.zero_add]
    rw [if_pos ⟨by rw [cells_frs]; omega, by omega⟩]; rfl
def MvI (l : List Int) (w : Nat) (k : Nat) (s : St) : Prop := ∃ (x : Env 42) (h : Heap) (i : Nat) (d : D), s = ⟨x.l, h, []⟩ ∧ i + k = l.length - w + 1 ∧ x.v 0 = intsD l ∧ x.v 1 = D.int w ∧ x.v 22 = D.int ((l.length - w + 1 : Nat) : Int) ∧ x.v 23 = D.int i ∧ x.v 6 = d ∧ GM h d (movP l w i) ∧ h.Fr
set_option maxHeartbeats 4000000 in
theorem mv_round (l : List Int) (ok : OkS l) (w : Nat) (hw1 : 1 ≤ w) (hwl : w ≤ l.length) : ∀ n, 1000002000 ≤ n → ∀ k s, MvI l w k s → Res (k33l0.ev ⟨pg, 42, none⟩ (rc pg n) s) (Rnd (MvI l w) (fun x s => x = .exit 0 ∧ MvI l w 0 s) k) := by
  rintro n hn k s ⟨x, h, i, d, rfl, hik, v0, v1, v22, v23, v6, hd, hf⟩
  have hl1 := ok.1
  simp only [intsD] at v0
  obtain ⟨N, hN⟩ : ∃ N, N = l.length - w + 1 := ⟨_, rfl⟩
  rw [← hN] at hik v22
  by_cases hi : i < N
  · have hiw : i + w ≤ l.length := by omega
    have wl := win_len hiw
    have okw : OkS (win l w i) := ok.part i w
    have mr := mean_run (win l w i) (n := n) (by omega)
    unfold menR at mr
    rw [ok_ser okw (by omega), if_pos rfl, if_pos rfl, men_frD okw (by omega)] at mr
    have mk := fun h => call_of (h := h) (pg := pg) (f := 31) rfl (ints_can (win l w i)) mr
    have hsn := mov_snoc l w i
    have hml := mov_len l w i
    obtain ⟨P, hP⟩ : ∃ P, P = meP (win l w i) := ⟨_, rfl⟩
    obtain ⟨O, hO⟩ : ∃ O, O = movP l w i := ⟨_, rfl⟩
    rw [← hP] at mk hsn
    rw [← hO] at hsn hml hd
    simp only [intsD, frD] at mk
    have w1 : IntKind.i64.wrap ((i : Int) + 1) = (i : Int) + 1 := wrap_i64 (by omega) (by omega)
    have w2 : IntKind.i64.wrap ((i : Int) + w) = (i : Int) + w := wrap_i64 (by omega) (by omega)
    have hfr : ∀ j, h.raw (h.next + j) = none := fun j => hf _ (by omega)
    have c1 : (i : Int) ≤ (i : Int) + w := by omega
    have c2 : (i : Int) + w ≤ (l.length : Int) := by omega
    have hh1 := head_ints l
    have tk : ((i : Int) + (w : Int)).toNat - i = w := by omega
    have mt : List.take w (List.drop i (l.map D.int)) = (win l w i).map D.int := by unfold win; rw [List.map_take, List.map_drop]
    have hO48 : (O.length + 1) * 16 ≤ 140737488355328 := by omega
    have hcell : (O.flatMap frC) ++ frC P = (O ++ [P]).flatMap frC := by simp
    rcases hd with ⟨hO0, rfl⟩ | ⟨kk, rfl, hg, hkk⟩
    · subst hO0
      simp [k33l0, v0, v1, v22, v23, v6, hi, w1, w2, D.cells, D.one, hfr, Nat.add_assoc, c1, c2, tk, mt, hh1, mk, zerosD, apK_some, room, maxLen, List.range_succ]
      refine ⟨k - 1, by omega, _, _, i + 1, .slr (h.next + 165) 0 1 2 none, rfl, by omega, by simp [v0, intsD], by simp [v1], by simp [v22, hN], by simp, by simp, .inr ⟨h.next + 165, by simp [hsn], by simp [hsn, frC], by simp <;> omega⟩, ?_⟩
      repeat' first | exact hf | apply Heap.Fr.bump | apply Heap.Fr.set
      all_goals (simp <;> omega)
    · have ne1 : ∀ j, (h.next + j = kk) = False := fun j => by simp; omega
      have ne2 : ∀ j, (kk = h.next + j) = False := fun j => by simp; omega
      have happ := fun t hh news => appS_none (t := t) (et := 48) (sz := 2) (bytes := 16) (h := hh) (m := 1) (news := news) (k := kk) (n := O.length) (cs := O.flatMap frC) (cells_frs O) (by omega) (by unfold room; omega) (by unfold maxLen; omega)
      simp [k33l0, v0, v1, v22, v23, v6, hi, w1, w2, D.cells, D.one, hfr, Nat.add_assoc, c1, c2, tk, mt, hh1, mk, zerosD, apK_some, List.range_succ, hg, ne1, ne2, happ]
      refine ⟨k - 1, by omega, _, _, i + 1, .slr (h.next + 165) 0 (O.length + 1) 2 none, rfl, by omega, by simp [v0, intsD], by simp [v1], by simp [v22, hN], by simp, by simp, .inr ⟨h.next + 165, by simp [hsn], by simp [hsn, frC], by simp <;> omega⟩, ?_⟩
      repeat' first | exact hf | apply Heap.Fr.bump | apply Heap.Fr.set
      all_goals (simp <;> omega)
  · simp [k33l0, v22, v23, hi]
    exact ⟨_, _, i, d, rfl, by omega, by simp [v0, intsD], by simp [v1], by simp [v22, hN], by simp [v23], by simp [v6], hd.keep (by simp) (by simp), hf.bump _⟩
end Go.Proofs.YtgbkdjlekfjkfaaGreatDoor
