/- Whatever rows and numbers it is called with, the code of SheetAdds returns true. -/
import Derived.Test.YtdljcjbghinhiaaDoorBetween
import Derived.Test.YtdljcjbghinhiaaDoorAdd
namespace Go.Proofs.YtdljcjbghinhiaaDoor
open Go Go.Em
set_option maxRecDepth 100000
def k3t : Cd :=
  .seq (.region [⟨none, (some 146), .inl (.mv (.s 7))⟩,
    ⟨none, (some 147), .inl (.mv (.s 146))⟩,
    ⟨(some (147, true)), (some 148), .inl (.mv (.s 25))⟩,
    ⟨(some (147, true)), (some 149), .inl (.bin .eql (.s 148) (.c (.int .i64 0)))⟩,
    ⟨none, (some 150), .inl (.pick (.s 147) (.s 149) (.c (.bool false)))⟩,
    ⟨none, (some 151), .inl (.mv (.s 150))⟩,
    ⟨(some (151, true)), (some 152), .inl (.mv (.s 27))⟩,
    ⟨(some (151, true)), (some 153), .inl (.bin .eql (.s 152) (.c (.int .i64 0)))⟩,
    ⟨none, (some 154), .inl (.pick (.s 151) (.s 153) (.c (.bool false)))⟩,
    ⟨none, (some 155), .inl (.mv (.s 154))⟩,
    ⟨(some (155, true)), (some 156), .inl (.mv (.s 8))⟩,
    ⟨(some (155, true)), (some 157), .inl (.bs 3 1 0 [(.int .i64 0)] [])⟩,
    ⟨(some (155, true)), (some 158), .inl (.mv (.s 24))⟩,
    ⟨(some (155, true)), (some 159), .inl (.app 3 1 8 (.s 157) (.s 158))⟩,
    ⟨(some (155, true)), (some 160), .inl (.mv (.s 26))⟩,
    ⟨(some (155, true)), (some 161), .inl (.app 3 1 8 (.s 159) (.s 160))⟩,
    ⟨(some (155, true)), (some 162), .inr (.fn 13 [(.s 156), (.s 161)])⟩,
    ⟨none, (some 163), .inl (.pick (.s 155) (.s 162) (.c (.bool false)))⟩,
    ⟨none, (some 6), .inl (.mv (.s 163))⟩])
  (.ret)
def k3r : Cd :=
  .seq (.region [⟨none, (some 39), .inl (.mv (.s 0))⟩,
    ⟨none, (some 40), .inr (.fn 10 [(.s 39)])⟩,
    ⟨none, (some 38), .inl (.mv (.s 40))⟩,
    ⟨none, (some 41), .inl (.ex (.s 38) 0)⟩,
    ⟨none, (some 42), .inl (.ex (.s 38) 1)⟩,
    ⟨none, (some 43), .inl (.ex (.s 38) 2)⟩,
    ⟨none, (some 9), .inl (.mv (.s 41))⟩,
    ⟨none, (some 10), .inl (.mv (.s 42))⟩,
    ⟨none, (some 11), .inl (.mv (.s 43))⟩])
  (.seq (.region [⟨none, (some 45), .inl (.mv (.s 1))⟩,
    ⟨none, (some 46), .inr (.fn 10 [(.s 45)])⟩,
    ⟨none, (some 44), .inl (.mv (.s 46))⟩,
    ⟨none, (some 47), .inl (.ex (.s 44) 0)⟩,
    ⟨none, (some 48), .inl (.ex (.s 44) 1)⟩,
    ⟨none, (some 49), .inl (.ex (.s 44) 2)⟩,
    ⟨none, (some 12), .inl (.mv (.s 47))⟩,
    ⟨none, (some 13), .inl (.mv (.s 48))⟩,
    ⟨none, (some 14), .inl (.mv (.s 49))⟩])
  (.seq (.region [⟨none, (some 51), .inl (.mv (.s 8))⟩,
    ⟨none, (some 52), .inr (.fn 10 [(.s 51)])⟩,
    ⟨none, (some 50), .inl (.mv (.s 52))⟩,
    ⟨none, (some 53), .inl (.ex (.s 50) 0)⟩,
    ⟨none, (some 54), .inl (.ex (.s 50) 1)⟩,
    ⟨none, (some 55), .inl (.ex (.s 50) 2)⟩,
    ⟨none, (some 15), .inl (.mv (.s 53))⟩,
    ⟨none, (some 16), .inl (.mv (.s 54))⟩,
    ⟨none, (some 17), .inl (.mv (.s 55))⟩])
  (.seq (.seq (.region [⟨none, (some 56), .inl (.mv (.s 11))⟩,
    ⟨none, (some 57), .inl (.bin .neq (.s 56) (.c (.int .i64 0)))⟩,
    ⟨none, (some 58), .inl (.mv (.s 57))⟩,
    ⟨(some (58, false)), (some 59), .inl (.mv (.s 14))⟩,
    ⟨(some (58, false)), (some 60), .inl (.bin .neq (.s 59) (.c (.int .i64 0)))⟩,
    ⟨none, (some 61), .inl (.pick (.s 58) (.c (.bool true)) (.s 60))⟩,
    ⟨none, (some 62), .inl (.mv (.s 61))⟩,
    ⟨(some (62, false)), (some 63), .inl (.mv (.s 17))⟩,
    ⟨(some (62, false)), (some 64), .inl (.bin .neq (.s 63) (.c (.int .i64 0)))⟩,
    ⟨none, (some 65), .inl (.pick (.s 62) (.c (.bool true)) (.s 64))⟩])
  (.cond (.s 65) (.seq (.region [⟨none, (some 66), .inl (.mv (.s 7))⟩,
     ⟨none, (some 67), .inl (.mv (.s 66))⟩,
     ⟨(some (67, true)), (some 68), .inl (.mv (.s 11))⟩,
     ⟨(some (67, true)), (some 69), .inl (.bin .neq (.s 68) (.c (.int .i64 0)))⟩,
     ⟨(some (67, true)), (some 70), .inl (.mv (.s 69))⟩,
     ⟨(some (70, false)), (some 71), .inl (.mv (.s 14))⟩,
     ⟨(some (70, false)), (some 72), .inl (.bin .neq (.s 71) (.c (.int .i64 0)))⟩,
     ⟨(some (67, true)), (some 73), .inl (.pick (.s 70) (.c (.bool true)) (.s 72))⟩,
     ⟨(some (67, true)), (some 74), .inl (.mv (.s 73))⟩,
     ⟨(some (74, false)), (some 75), .inl (.mv (.s 17))⟩,
     ⟨(some (74, false)), (some 76), .inl (.bin .eql (.s 75) (.c (.int .i64 2)))⟩,
     ⟨(some (74, false)), (some 77), .inl (.mv (.s 76))⟩,
     ⟨(some (77, true)), (some 78), .inl (.mv (.s 10))⟩,
     ⟨(some (77, true)), (some 79), .inl (.mv (.s 13))⟩,
     ⟨(some (77, true)), (some 80), .inl (.bin .add (.s 78) (.s 79))⟩,
     ⟨(some (77, true)), (some 81), .inl (.bin .gtr (.s 80) (.c (.int .i64 100000)))⟩,
     ⟨(some (74, false)), (some 82), .inl (.pick (.s 77) (.s 81) (.c (.bool false)))⟩,
     ⟨(some (67, true)), (some 83), .inl (.pick (.s 74) (.c (.bool true)) (.s 82))⟩,
     ⟨none, (some 84), .inl (.pick (.s 67) (.s 83) (.c (.bool false)))⟩,
     ⟨none, (some 6), .inl (.mv (.s 84))⟩])
   (.ret))
  (.skip)))
  (.seq (.region [⟨none, (some 86), .inl (.mv (.s 0))⟩,
    ⟨none, (some 87), .inr (.fn 11 [(.s 86)])⟩,
    ⟨none, (some 85), .inl (.mv (.s 87))⟩,
    ⟨none, (some 88), .inl (.ex (.s 85) 0)⟩,
    ⟨none, (some 89), .inl (.ex (.s 85) 1)⟩,
    ⟨none, (some 18), .inl (.mv (.s 88))⟩,
    ⟨none, (some 19), .inl (.mv (.s 89))⟩])
  (.seq (.region [⟨none, (some 91), .inl (.mv (.s 1))⟩,
    ⟨none, (some 92), .inr (.fn 11 [(.s 91)])⟩,
    ⟨none, (some 90), .inl (.mv (.s 92))⟩,
    ⟨none, (some 93), .inl (.ex (.s 90) 0)⟩,
    ⟨none, (some 94), .inl (.ex (.s 90) 1)⟩,
    ⟨none, (some 20), .inl (.mv (.s 93))⟩,
    ⟨none, (some 21), .inl (.mv (.s 94))⟩])
  (.seq (.region [⟨none, (some 96), .inl (.mv (.s 8))⟩,
    ⟨none, (some 97), .inr (.fn 11 [(.s 96)])⟩,
    ⟨none, (some 95), .inl (.mv (.s 97))⟩,
    ⟨none, (some 98), .inl (.ex (.s 95) 0)⟩,
    ⟨none, (some 99), .inl (.ex (.s 95) 1)⟩,
    ⟨none, (some 22), .inl (.mv (.s 98))⟩,
    ⟨none, (some 23), .inl (.mv (.s 99))⟩])
  (.seq (.seq (.region [⟨none, (some 100), .inl (.mv (.s 15))⟩,
    ⟨none, (some 101), .inl (.mv (.s 9))⟩,
    ⟨none, (some 102), .inl (.mv (.s 12))⟩,
    ⟨none, (some 103), .inl (.bin .add (.s 101) (.s 102))⟩,
    ⟨none, (some 104), .inl (.bin .neq (.s 100) (.s 103))⟩,
    ⟨none, (some 105), .inl (.mv (.s 104))⟩,
    ⟨(some (105, false)), (some 106), .inl (.mv (.s 16))⟩,
    ⟨(some (105, false)), (some 107), .inl (.mv (.s 10))⟩,
    ⟨(some (105, false)), (some 108), .inl (.mv (.s 13))⟩,
    ⟨(some (105, false)), (some 109), .inl (.bin .add (.s 107) (.s 108))⟩,
    ⟨(some (105, false)), (some 110), .inl (.bin .neq (.s 106) (.s 109))⟩,
    ⟨none, (some 111), .inl (.pick (.s 105) (.c (.bool true)) (.s 110))⟩,
    ⟨none, (some 112), .inl (.mv (.s 111))⟩,
    ⟨(some (112, false)), (some 113), .inl (.mv (.s 23))⟩,
    ⟨(some (112, false)), (some 114), .inl (.bin .eql (.s 113) (.c (.int .i64 0)))⟩,
    ⟨(some (112, false)), (some 115), .inl (.mv (.s 19))⟩,
    ⟨(some (112, false)), (some 116), .inl (.bin .eql (.s 115) (.c (.int .i64 0)))⟩,
    ⟨(some (112, false)), (some 117), .inl (.mv (.s 116))⟩,
    ⟨(some (117, true)), (some 118), .inl (.mv (.s 21))⟩,
    ⟨(some (117, true)), (some 119), .inl (.bin .eql (.s 118) (.c (.int .i64 0)))⟩,
    ⟨(some (112, false)), (some 120), .inl (.pick (.s 117) (.s 119) (.c (.bool false)))⟩,
    ⟨(some (112, false)), (some 121), .inl (.eq true .bool (.s 114) (.s 120))⟩,
    ⟨none, (some 122), .inl (.pick (.s 112) (.c (.bool true)) (.s 121))⟩,
    ⟨none, (some 123), .inl (.mv (.s 122))⟩,
    ⟨(some (123, false)), (some 124), .inl (.mv (.s 23))⟩,
    ⟨(some (123, false)), (some 125), .inl (.bin .eql (.s 124) (.c (.int .i64 0)))⟩,
    ⟨(some (123, false)), (some 126), .inl (.mv (.s 125))⟩,
    ⟨(some (126, true)), (some 127), .inl (.mv (.s 22))⟩,
    ⟨(some (126, true)), (some 128), .inl (.mv (.s 18))⟩,
    ⟨(some (126, true)), (some 129), .inl (.mv (.s 20))⟩,
    ⟨(some (126, true)), (some 130), .inl (.bin .add (.s 128) (.s 129))⟩,
    ⟨(some (126, true)), (some 131), .inl (.bin .neq (.s 127) (.s 130))⟩,
    ⟨(some (123, false)), (some 132), .inl (.pick (.s 126) (.s 131) (.c (.bool false)))⟩,
    ⟨none, (some 133), .inl (.pick (.s 123) (.c (.bool true)) (.s 132))⟩])
  (.cond (.s 133) (.seq (.region [⟨none, (some 6), .inl (.mv (.c (.bool false)))⟩])
   (.ret))
  (.skip)))
  (.seq (.region [⟨none, (some 135), .inl (.mv (.s 0))⟩,
    ⟨none, (some 136), .inl (.mv (.s 2))⟩,
    ⟨none, (some 137), .inr (.fn 12 [(.s 135), (.s 136)])⟩,
    ⟨none, (some 134), .inl (.mv (.s 137))⟩,
    ⟨none, (some 138), .inl (.ex (.s 134) 0)⟩,
    ⟨none, (some 139), .inl (.ex (.s 134) 1)⟩,
    ⟨none, (some 24), .inl (.mv (.s 138))⟩,
    ⟨none, (some 25), .inl (.mv (.s 139))⟩])
  (.seq (.region [⟨none, (some 141), .inl (.mv (.s 1))⟩,
    ⟨none, (some 142), .inl (.mv (.s 2))⟩,
    ⟨none, (some 143), .inr (.fn 12 [(.s 141), (.s 142)])⟩,
    ⟨none, (some 140), .inl (.mv (.s 143))⟩,
    ⟨none, (some 144), .inl (.ex (.s 140) 0)⟩,
    ⟨none, (some 145), .inl (.ex (.s 140) 1)⟩,
    ⟨none, (some 26), .inl (.mv (.s 144))⟩,
    ⟨none, (some 27), .inl (.mv (.s 145))⟩])
  k3t)))))))))
def k3h : Cd :=
  .seq (.region [⟨none, (some 6), .inl (.mv (.c (.bool false)))⟩])
  (.seq (.region [⟨none, (some 28), .inr (.fn 8 [])⟩,
    ⟨none, (some 7), .inl (.mv (.s 28))⟩])
  (.seq (.region [⟨none, (some 29), .inl (.mv (.s 0))⟩,
    ⟨none, (some 30), .inr (.fn 9 [(.s 29)])⟩,
    ⟨none, (some 0), .inl (.mv (.s 30))⟩])
  (.seq (.region [⟨none, (some 31), .inl (.mv (.s 1))⟩,
    ⟨none, (some 32), .inr (.fn 9 [(.s 31)])⟩,
    ⟨none, (some 1), .inl (.mv (.s 32))⟩])
  (.seq (.region [⟨none, (some 33), .inl (.bs 80 3 0 [(.int .i64 0), (.int .i64 0), (.int .i64 0)] [])⟩,
    ⟨none, (some 34), .inl (.mv (.s 0))⟩,
    ⟨none, (some 35), .inl (.app 80 3 24 (.s 33) (.s 34))⟩,
    ⟨none, (some 36), .inl (.mv (.s 1))⟩,
    ⟨none, (some 37), .inl (.app 80 3 24 (.s 35) (.s 36))⟩,
    ⟨none, (some 8), .inl (.mv (.s 37))⟩])
  k3r))))
theorem k3_eq : k3 = k3h := rfl
/-- Rows that stand in the heap. -/
def Gd (h : Heap) (d : D) (L : List Rw) : Prop := ∃ k c, d = .slr k 0 L.length 3 c ∧ h.get k = some (.cells 80 (L.flatMap rowC)) ∧ k < h.next
theorem rows_frz {h : Heap} {k n : Nat} {c : Option Nat} {L : List Rw} (hg : h.get k = some (.cells 80 (L.flatMap rowC))) (hn : n = L.length) : frz h depth (.slr k 0 n 3 c) = some (rowsD L, [k]) := by
  subst hn
  have hl3 : (L.flatMap rowC).length = L.length * 3 := length_flatMap _ rowC_len L
  have hcan : D.canonL (L.flatMap rowC) = true := canonL_flatMap _ rowC_canon L
  have hch : chunk 3 L.length (L.flatMap rowC) = L.map rowD := chunk_flatMap _ (by decide) rowC_len L _ rfl
  have htk : (L.flatMap rowC).take (L.length * 3) = L.flatMap rowC := List.take_of_length_le (by omega)
  show frz h (23 + 1) _ = _
  rw [frz_slr, hg, frzS_cells]; simp [htk, hch, each_canon _ 22 _ hcan, rowsD, hl3]
theorem call_rows {h : Heap} {k n : Nat} {c : Option Nat} {L : List Rw} (hg : h.get k = some (.cells 80 (L.flatMap rowC))) (hn : n = L.length) {f : FuncId} {R : Rc} {o : Out} (hs : pg.sh f = false) (x : pureCall R f [rowsD L] = some o) (hfl : o.d.flat = true) : call pg R f [.slr k 0 n 3 c] h = some (o, h) := by
  have hall : each (frz h depth) [.slr k 0 n 3 c] = some ([rowsD L], [k]) := by
    unfold each; rw [rows_frz hg hn]; simp [each]
  unfold call
  rw [hs, hall]
  simp [x, hfl]
theorem call_both {h : Heap} {k n k2 n2 : Nat} {c c2 : Option Nat} {L : List Rw} {M : List Int} (hg : h.get k = some (.cells 80 (L.flatMap rowC))) (hn : n = L.length) (hg2 : h.get k2 = some (.cells 3 (M.map D.int))) (hn2 : n2 = M.length) {f : FuncId} {R : Rc} {b : Bool} (hs : pg.sh f = false)
    (x : pureCall R f [rowsD L, intsD M] = some (.ret (D.bool b))) : call pg R f [.slr k 0 n 3 c, .slr k2 0 n2 1 c2] h = some (.ret (D.bool b), h) := by
  subst hn2
  have htk : (M.map D.int).take M.length = M.map D.int := List.take_of_length_le (by simp)
  have hch := chunk_one M
  have hz : frz h depth (.slr k2 0 M.length 1 c2) = some (intsD M, [k2]) := by
    show frz h (23 + 1) _ = _
    rw [frz_slr, hg2, frzS_cells]; simp [htk, hch, each_canon _ 22 _ (ints_canon M), intsD]
  have hall : each (frz h depth) [.slr k 0 n 3 c, .slr k2 0 M.length 1 c2] = some ([rowsD L, intsD M], [k, k2]) := by
    unfold each; rw [rows_frz hg hn]; unfold each; rw [hz]; simp [each]
  unfold call
  rw [hs, hall]
  simp only [x, Bool.false_eq_true, if_false, Option.map_some]
  rfl
theorem cells_ints : ∀ l : List Int, (l.map D.int).flatMap D.cells = l.map D.int
  | [] => rfl
  | a :: l => by rw [List.map_cons, List.flatMap_cons, cells_ints l]; rfl
set_option maxHeartbeats 8000000 in
theorem adds_tail (X : Env 164) (h : Heap) (hf : h.Fr) (L : List Rw) (l m : List Int) (d : D) (x7 : X.v 7 = D.bool true) (x8 : X.v 8 = d) (hd : Gd h d L) (x24 : X.v 24 = intsD l) (x25 : X.v 25 = D.int 0) (x26 : X.v 26 = intsD m) (x27 : X.v 27 = D.int 0)
    (hl : l.length ≤ 4000000) (hm : m.length ≤ 4000000) (his : isF L (l ++ m) = true) {n : Nat} (hn : L.length + l.length + m.length + 200 ≤ n) :
    endK (rc pg n) [(.tmp 6, false, 0)] (Cd.ev ⟨pg, 164, none⟩ (rc pg n) k3t { e := X.l, h := h, df := [] }) = some (.ret (D.bool true)) := by
  obtain ⟨k1, c1, rfl, hg1, hk1⟩ := hd
  simp only [intsD] at x24 x26
  have hfr : ∀ j, h.raw (h.next + j) = none := fun j => hf _ (by omega)
  have e1 : ∀ j, (k1 = h.next + j) = False := fun j => by simp; omega
  have q13 := fun (hh : Heap) (k nn k2 n2 : Nat) (c c2 : Option Nat) (g1 : hh.get k = some (.cells 80 (L.flatMap rowC))) (g2 : nn = L.length) (g3 : hh.get k2 = some (.cells 3 ((l ++ m).map D.int))) (g4 : n2 = (l ++ m).length) => call_both (c := c) (c2 := c2) g1 g2 g3 g4 (f := 13) rfl (show pureCall (rc pg n) 13 [rowsD L, intsD (l ++ m)] = some (.ret (D.bool true)) by rw [← his]; exact @is_run L (l ++ m) (by simp; omega) n (by simp; omega))
  have f1 := cells_ints l
  have f2 := cells_ints m
  by_cases hl0 : l.length = 0
  · have : l = [] := List.eq_nil_of_length_eq_zero hl0
    subst this
    by_cases hm0 : m.length = 0
    · have : m = [] := List.eq_nil_of_length_eq_zero hm0
      subst this
      simp [k3t, x7, x8, x24, x25, x26, x27, zerosD, D.cells, D.one, hfr, Nat.add_assoc, apK_zero_slr]
      rw [q13]
      · simp
      · simp [hg1, e1]
      · rfl
      · simp
      · simp
    · have z := fun t hh news k ty cs => appS_zero (t := t) (et := 3) (sz := 1) (bytes := 8) (h := hh) (m := m.length) (news := news) (k := k) (ty := ty) (cs := cs) (by omega) (by unfold room; omega) (by unfold maxLen; omega)
      have hmn : m ≠ [] := by rintro rfl; exact hm0 rfl
      simp [k3t, x7, x8, x24, x25, x26, x27, zerosD, D.cells, D.one, hfr, Nat.add_assoc, apK_zero_slr, apK_some, hm0, hmn, z, f2]
      rw [q13]
      · simp
      · simp [hg1, e1]
      · rfl
      · simp
      · simp
  · have hln : l ≠ [] := by rintro rfl; exact hl0 rfl
    have zl := fun t hh news k ty cs => appS_zero (t := t) (et := 3) (sz := 1) (bytes := 8) (h := hh) (m := l.length) (news := news) (k := k) (ty := ty) (cs := cs) (by omega) (by unfold room; omega) (by unfold maxLen; omega)
    by_cases hm0 : m.length = 0
    · have : m = [] := List.eq_nil_of_length_eq_zero hm0
      subst this
      simp [k3t, x7, x8, x24, x25, x26, x27, zerosD, D.cells, D.one, hfr, Nat.add_assoc, apK_zero_slr, apK_some, hl0, hln, zl, f1]
      rw [q13]
      · simp
      · simp [hg1, e1]
      · rfl
      · simp
      · simp
    · have hmn : m ≠ [] := by rintro rfl; exact hm0 rfl
      have zN := fun t hh news k => appS_none (t := t) (et := 3) (sz := 1) (bytes := 8) (h := hh) (m := m.length) (news := news) (k := k) (n := l.length) (cs := l.map D.int) (by simp) (by omega) (by unfold room; omega) (by unfold maxLen; omega)
      simp [k3t, x7, x8, x24, x25, x26, x27, zerosD, D.cells, D.one, hfr, Nat.add_assoc, apK_zero_slr, apK_some, hl0, hln, hm0, hmn, zl, zN, f1, f2]
      rw [q13]
      · simp
      · simp [hg1, e1]
      · rfl
      · simp
      · simp
end Go.Proofs.YtdljcjbghinhiaaDoor
/- Whatever rows and numbers it is called with, the code of SheetAdds returns true: the head. -/
namespace Go.Proofs.YtdljcjbghinhiaaDoor
open Go Go.Em
set_option maxRecDepth 100000
theorem th_big {a : List Rw} (ha : (natsF a).2 = 0) : 0 ≤ (lenF a).1 ∧ (lenF a).1 ≤ 80000000 := by
  unfold lenF
  split
  · have := thSum_bound a (ok_of ha)
    have := len_of_ok ha
    simp only; omega
  · simp
theorem flat_tup3 (a b c : Int) : (Out.ret (D.tup [D.int a, D.int b, D.int c])).d.flat = true := rfl
theorem flat_tup2 (a b : Int) : (Out.ret (D.tup [D.int a, D.int b])).d.flat = true := rfl
set_option maxHeartbeats 16000000 in
theorem adds_rest (X : Env 164) (h : Heap) (hf : h.Fr) (a b : List Rw) (picks : List Int) (d : D) (x0 : X.v 0 = rowsD a) (x1 : X.v 1 = rowsD b) (x2 : X.v 2 = intsD picks) (x7 : X.v 7 = D.bool true) (x8 : X.v 8 = d) (hd : Gd h d (a ++ b))
    (hla : a.length ≤ 60) (hlb : b.length ≤ 60) {n : Nat} (hn : 9000000 ≤ n) :
    endK (rc pg n) [(.tmp 6, false, 0)] (Cd.ev ⟨pg, 164, none⟩ (rc pg n) k3r { e := X.l, h := h, df := [] }) = some (.ret (D.bool true)) := by
  have hd' := hd
  obtain ⟨k1, c1, rfl, hg1, hk1⟩ := hd'
  have hc2 : ∀ L ys, D.canonL [rowsD L, intsD ys] = true := fun L ys => by simp only [rowsD, intsD, D.canonL, D.canon, ints_canon, canonL_map rowD (fun _ => rfl) L]; rfl
  have y1 := fun h => call_of (h := h) (pg := pg) (f := 10) rfl (rows_canon a) (@pyears_run a n (by omega))
  have y2 := fun h => call_of (h := h) (pg := pg) (f := 10) rfl (rows_canon b) (@pyears_run b n (by omega))
  have hlab : (a ++ b).length ≤ 120 := by simp; omega
  have y3 := fun (hh : Heap) (hg : hh.get k1 = some (.cells 80 ((a ++ b).flatMap rowC))) => call_rows (c := c1) hg rfl (f := 10) rfl (@pyears_run (a ++ b) n (by omega)) (flat_tup3 _ _ _)
  have z1 := fun h => call_of (h := h) (pg := pg) (f := 11) rfl (rows_canon a) (@plen_run a n (by omega))
  have z2 := fun h => call_of (h := h) (pg := pg) (f := 11) rfl (rows_canon b) (@plen_run b n (by omega))
  have z3 := fun (hh : Heap) (hg : hh.get k1 = some (.cells 80 ((a ++ b).flatMap rowC))) => call_rows (c := c1) hg rfl (f := 11) rfl (@plen_run (a ++ b) n (by omega)) (flat_tup2 _ _)
  have r1 := fun h => call_of (h := h) (pg := pg) (f := 12) rfl (hc2 a picks) (@read_run picks a n (by omega))
  have r2 := fun h => call_of (h := h) (pg := pg) (f := 12) rfl (hc2 b picks) (@read_run picks b n (by omega))
  obtain ⟨C, hC⟩ : ∃ C, C = (a ++ b).flatMap rowC := ⟨_, rfl⟩
  rw [← hC] at hg1 y3 z3
  obtain ⟨N, hN⟩ : ∃ N, N = (a ++ b).length := ⟨_, rfl⟩
  rw [← hN] at x8 y3 z3
  by_cases ha : (natsF a).2 = 0
  · have ya : yearsF a = (loSum a, hiSum a, 0) := by unfold yearsF; rw [if_pos ha]
    rw [ya] at y1
    by_cases hb : (natsF b).2 = 0
    · have yb : yearsF b = (loSum b, hiSum b, 0) := by unfold yearsF; rw [if_pos hb]
      rw [yb] at y2
      have hva := ok_of ha
      have hvb := ok_of hb
      have b1 := loSum_bound a hva
      have b2 := hiSum_bound a hva
      have b3 := loSum_bound b hvb
      have b4 := hiSum_bound b hvb
      have w1 : IntKind.i64.wrap (hiSum a + hiSum b) = hiSum a + hiSum b := wrap_i64 (by omega) (by omega)
      have w2 : IntKind.i64.wrap (loSum a + loSum b) = loSum a + loSum b := wrap_i64 (by omega) (by omega)
      have hnab := nats_app ha hb hla hlb
      by_cases hs : 100000 < hiSum a + hiSum b
      · rw [if_pos hs] at hnab
        have yab : yearsF (a ++ b) = (0, 0, 2) := by unfold yearsF; rw [hnab]; rfl
        rw [yab] at y3
        simp [k3r, x0, x1, x7, x8, y1, y2, y3, hg1, w1, hs]
      · rw [if_neg hs] at hnab
        have yab : yearsF (a ++ b) = (loSum a + loSum b, hiSum a + hiSum b, 0) := by unfold yearsF; rw [if_pos hnab, loSum_app, hiSum_app]
        rw [yab] at y3
        obtain ⟨l1, l2⟩ := len_app ha hb hnab
        have ta := th_big ha
        have tb := th_big hb
        have w3 : IntKind.i64.wrap ((lenF a).1 + (lenF b).1) = (lenF a).1 + (lenF b).1 := wrap_i64 (by omega) (by omega)
        have ea : readL picks a = readF picks 0 a := by unfold readL; rw [if_pos ha]
        have eb : readL picks b = readF picks 0 b := by unfold readL; rw [if_pos hb]
        have lena := readL_len picks a
        have lenb := readL_len picks b
        rw [ha] at r1
        rw [hb] at r2
        have his : isF (a ++ b) (readL picks a ++ readL picks b) = true := by
          rw [ea, eb]
          exact (is_reads _ _).2 ⟨hnab, rd_app a b _ _ hva (read_rd picks a 0 hva) (read_rd picks b 0 hvb)⟩
        have fin : ∀ (Y : Env 164) (h' : Heap), h'.Fr → h.next ≤ h'.next → h'.get k1 = some (.cells 80 C) → Y.v 7 = D.bool true → Y.v 8 = .slr k1 0 N 3 c1 → Y.v 24 = intsD (readL picks a) → Y.v 25 = D.int 0 → Y.v 26 = intsD (readL picks b) → Y.v 27 = D.int 0 →
            endK (rc pg n) [(.tmp 6, false, 0)] (Cd.ev ⟨pg, 164, none⟩ (rc pg n) k3t { e := Y.l, h := h', df := [] }) = some (.ret (D.bool true)) := fun Y h' f1 f2 f3 g7 g8 g24 g25 g26 g27 =>
          adds_tail Y h' f1 (a ++ b) _ _ _ g7 g8 ⟨k1, c1, by rw [hN], by rw [← hC]; exact f3, by omega⟩ g24 g25 g26 g27 (by omega) (by omega) his (by omega)
        obtain ⟨T, hT⟩ : ∃ T, T = k3t := ⟨_, rfl⟩
        rw [← hT] at fin
        have hkr : k3r = k3r := rfl
        by_cases p1 : (lenF a).2 = 0
        · by_cases p2 : (lenF b).2 = 0
          · have p3 : (lenF (a ++ b)).2 = 0 := l1.2 ⟨p1, p2⟩
            have p4 := l2 p3
            simp [k3r, ← hT, x0, x1, x2, x7, x8, y1, y2, y3, z1, z2, z3, hg1, w1, w2, w3, p1, p2, p3, p4, r1, r2]
            refine fin _ _ ?_ (by simp <;> omega) (by simp [hg1]) (by simp [x7]) (by simp [x8]) (by simp) (by simp) (by simp) (by simp)
            repeat' first | exact hf | apply Heap.Fr.bump | apply Heap.Fr.set
          · have p3 : ¬ (lenF (a ++ b)).2 = 0 := fun h => p2 (l1.1 h).2
            have q2 : ((lenF b).2 == 0) = false := by simpa using p2
            have q3 : ((lenF (a ++ b)).2 == 0) = false := by simpa using p3
            simp [k3r, ← hT, x0, x1, x2, x7, x8, y1, y2, y3, z1, z2, z3, hg1, w1, w2, w3, p1, q2, q3, r1, r2]
            refine fin _ _ ?_ (by simp <;> omega) (by simp [hg1]) (by simp [x7]) (by simp [x8]) (by simp) (by simp) (by simp) (by simp)
            repeat' first | exact hf | apply Heap.Fr.bump | apply Heap.Fr.set
        · have p3 : ¬ (lenF (a ++ b)).2 = 0 := fun h => p1 (l1.1 h).1
          have q1 : ((lenF a).2 == 0) = false := by simpa using p1
          have q3 : ((lenF (a ++ b)).2 == 0) = false := by simpa using p3
          simp [k3r, ← hT, x0, x1, x2, x7, x8, y1, y2, y3, z1, z2, z3, hg1, w1, w2, w3, q1, q3, r1, r2]
          refine fin _ _ ?_ (by simp <;> omega) (by simp [hg1]) (by simp [x7]) (by simp [x8]) (by simp) (by simp) (by simp) (by simp)
          repeat' first | exact hf | apply Heap.Fr.bump | apply Heap.Fr.set
    · have yb : yearsF b = (0, 0, (natsF b).2) := by unfold yearsF; rw [if_neg hb]
      rw [yb] at y2
      have hb' : ((natsF b).2 != 0) = true := by simpa using hb
      simp [k3r, x0, x1, x7, x8, y1, y2, y3, hg1, hb']
  · have ya : yearsF a = (0, 0, (natsF a).2) := by unfold yearsF; rw [if_neg ha]
    rw [ya] at y1
    have ha' : ((natsF a).2 != 0) = true := by simpa using ha
    simp [k3r, x0, x1, x7, x8, y1, y2, y3, hg1, ha']
end Go.Proofs.YtdljcjbghinhiaaDoor
/- Whatever rows and numbers it is called with, the code of SheetAdds returns true. -/
namespace Go.Proofs.YtdljcjbghinhiaaDoor
open Go Go.Em
set_option maxRecDepth 100000
set_option maxHeartbeats 16000000 in
theorem adds_law (A B : List Rw) (picks : List Int) {f : Nat} (hn : 10000000 ≤ f) : pureCall (rc pg f) 3 [rowsD A, rowsD B, intsD picks] = some (.ret (D.bool true)) := by
  obtain ⟨m, hm, e⟩ := body (pg := pg) (f := 3) (args := [rowsD A, rowsD B, intsD picks]) (show 0 < f by omega) rfl rfl
  rw [e, k3_eq]
  have hs := @sane_call m (by omega)
  have a1 := fun h => call_of (h := h) (pg := pg) (f := 9) rfl (rows_canon A) (@cut_run A m (by omega))
  have a2 := fun h => call_of (h := h) (pg := pg) (f := 9) rfl (rows_canon B) (@cut_run B m (by omega))
  obtain ⟨a, ha⟩ : ∃ a, a = A.take 60 := ⟨_, rfl⟩
  obtain ⟨b, hb⟩ : ∃ b, b = B.take 60 := ⟨_, rfl⟩
  have hla : a.length ≤ 60 := by rw [ha, List.length_take]; omega
  have hlb : b.length ≤ 60 := by rw [hb, List.length_take]; omega
  rw [← ha] at a1
  rw [← hb] at a2
  have fin : ∀ (Y : Env 164) (h : Heap) (d : D), h.Fr → Gd h d (a ++ b) → Y.v 0 = rowsD a → Y.v 1 = rowsD b → Y.v 2 = intsD picks → Y.v 7 = D.bool true → Y.v 8 = d → endK (rc pg m) [(.tmp 6, false, 0)] (Cd.ev ⟨pg, 164, none⟩ (rc pg m) k3r { e := Y.l, h := h, df := [] }) = some (.ret (D.bool true)) :=
    fun Y h d f1 f2 g0 g1 g2 g7 g8 => adds_rest Y h f1 a b picks d g0 g1 g2 g7 g8 f2 hla hlb (by omega)
  obtain ⟨T, hT⟩ : ∃ T, T = k3r := ⟨_, rfl⟩
  rw [← hT] at fin
  simp only [rowsD] at a1 a2
  have c1 := rows_cells a
  have c2 := rows_cells b
  have o1 := rows_one a
  have o2 := rows_one b
  have s1 : (a.map rowD).all (fun e => e.cells.length == 3) = true := by simp [rowD, D.cells]
  have s2 : (b.map rowD).all (fun e => e.cells.length == 3) = true := by simp [rowD, D.cells]
  by_cases ha0 : a.length = 0
  · have : a = [] := List.eq_nil_of_length_eq_zero ha0
    rw [this] at a1 fin
    by_cases hb0 : b.length = 0
    · have : b = [] := List.eq_nil_of_length_eq_zero hb0
      rw [this] at a2 fin
      simp [k3h, ← hT, Env.v_ini, rowsD, hs, a1, a2, zerosD, apK_zero_slr, D.cells, D.one]
      refine fin _ _ (.slr 689 0 0 3 (some 0)) ?_ ⟨689, some 0, rfl, by simp, by simp⟩ (by simp [rowsD]) (by simp [rowsD]) (by simp [Env.v_ini]) (by simp) (by simp)
      repeat' first | exact Heap.Fr.empty | apply Heap.Fr.bump | apply Heap.Fr.set
      all_goals simp
    · have hbn : b ≠ [] := by rintro rfl; exact hb0 rfl
      have z := fun t hh news k ty cs => appS_zero (t := t) (et := 80) (sz := 3) (bytes := 24) (h := hh) (m := b.length) (news := news) (k := k) (ty := ty) (cs := cs) (by omega) (by unfold room; omega) (by unfold maxLen; omega)
      simp [k3h, ← hT, Env.v_ini, rowsD, hs, a1, a2, zerosD, apK_zero_slr, apK_some, s2, c2, o2, hb0, hbn, z]
      refine fin _ _ (.slr 693 0 b.length 3 none) ?_ ⟨693, none, by simp, by simp, by simp⟩ (by simp [rowsD]) (by simp [rowsD]) (by simp [Env.v_ini]) (by simp) (by simp)
      repeat' first | exact Heap.Fr.empty | apply Heap.Fr.bump | apply Heap.Fr.set
      all_goals simp
  · have han : a ≠ [] := by rintro rfl; exact ha0 rfl
    have z := fun t hh news k ty cs => appS_zero (t := t) (et := 80) (sz := 3) (bytes := 24) (h := hh) (m := a.length) (news := news) (k := k) (ty := ty) (cs := cs) (by omega) (by unfold room; omega) (by unfold maxLen; omega)
    by_cases hb0 : b.length = 0
    · have : b = [] := List.eq_nil_of_length_eq_zero hb0
      rw [this] at a2 fin
      simp [k3h, ← hT, Env.v_ini, rowsD, hs, a1, a2, zerosD, apK_zero_slr, apK_some, s1, c1, o1, ha0, han, z]
      refine fin _ _ (.slr 691 0 a.length 3 none) ?_ ⟨691, none, by simp, by simp, by simp⟩ (by simp [rowsD]) (by simp [rowsD]) (by simp [Env.v_ini]) (by simp) (by simp)
      repeat' first | exact Heap.Fr.empty | apply Heap.Fr.bump | apply Heap.Fr.set
      all_goals simp
    · have hbn : b ≠ [] := by rintro rfl; exact hb0 rfl
      have hl3 : (a.flatMap rowC).length = a.length * 3 := length_flatMap _ rowC_len a
      have zN := fun t hh news k => appS_none (t := t) (et := 80) (sz := 3) (bytes := 24) (h := hh) (m := b.length) (news := news) (k := k) (n := a.length) (cs := a.flatMap rowC) hl3 (by omega) (by unfold room; omega) (by unfold maxLen; omega)
      simp [k3h, ← hT, Env.v_ini, rowsD, hs, a1, a2, zerosD, apK_zero_slr, apK_some, s1, s2, c1, c2, o1, o2, ha0, han, hb0, hbn, z, zN]
      refine fin _ _ (.slr 693 0 (a.length + b.length) 3 none) ?_ ⟨693, none, by simp, by simp, by simp⟩ (by simp [rowsD]) (by simp [rowsD]) (by simp [Env.v_ini]) (by simp) (by simp)
      repeat' first | exact Heap.Fr.empty | apply Heap.Fr.bump | apply Heap.Fr.set
      all_goals simp
end Go.Proofs.YtdljcjbghinhiaaDoor
