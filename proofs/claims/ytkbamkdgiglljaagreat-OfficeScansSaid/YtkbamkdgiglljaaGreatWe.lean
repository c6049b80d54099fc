/- The law of scans, in pieces. -/
import Derived.Test.YtkbamkdgiglljaaGreatWb
import Derived.Test.YtkbamkdgiglljaaGreatSane
namespace Go.Proofs.YtkbamkdgiglljaaGreat
open Go Go.Em
set_option maxRecDepth 100000
def k4p0 : Cd := .region [⟨none, some 6, .inl (.mv (.c (.bool false)))⟩]
def k4p1 : Cd := .region [⟨none, some 22, .inl (.mv (.s 1))⟩, ⟨none, some 23, .inl (.mv (.s 1))⟩, ⟨none, some 24, .inl (.len (.s 23))⟩, ⟨none, some 25, .inl (.mm false (.s 24) (.c (.int .i64 500)))⟩, ⟨none, some 26, .inl (.slc 1 (.s 22) none (some (.s 25)) none)⟩, ⟨none, some 1, .inl (.mv (.s 26))⟩]
def k4p2 : Cd := .seq (.region [⟨none, some 27, .inl (.mv (.s 1))⟩, ⟨none, some 28, .inr (.fn 16 [(.s 27)])⟩, ⟨none, some 29, .inl (.mv (.s 1))⟩, ⟨none, some 30, .inr (.fn 17 [(.s 29)])⟩, ⟨none, some 31, .inl (.bin .neq (.s 28) (.s 30))⟩]) (.cond (.s 31) (.seq (.region [⟨none, some 6, .inl (.mv (.c (.bool false)))⟩]) (.ret)) (.skip))
def k4p3 : Cd := .region [⟨none, some 7, .inl (.mv (.c (.slice none 0 0)))⟩]
def k4p4 : Cd := .region [⟨none, some 8, .inl (.mv (.c (.slice none 0 0)))⟩]
def k4p5 : Cd := .region [⟨none, some 9, .inl (.mv (.c (.slice none 0 0)))⟩]
def k4p6 : Cd := .seq (.region [⟨none, some 10, .inl (.mv (.c (.int .i64 0)))⟩]) (.block 0 (.loop k4l0))
def k4p7 : Cd := .region [⟨none, some 67, .inl (.mv (.s 2))⟩, ⟨none, some 68, .inl (.mv (.s 7))⟩, ⟨none, some 69, .inl (.len (.s 68))⟩, ⟨none, some 70, .inl (.bin .add (.s 69) (.c (.int .i64 1)))⟩, ⟨none, some 71, .inr (.fn 18 [(.s 67), (.s 70)])⟩, ⟨none, some 13, .inl (.mv (.s 71))⟩]
def k4p8 : Cd := .region [⟨none, some 73, .inl (.bs 5 1 0 [(.int .u8 0)] [])⟩, ⟨none, some 74, .inl (.mv (.s 7))⟩, ⟨none, some 75, .inl (.app 5 1 1 (.s 73) (.s 74))⟩, ⟨none, some 76, .inl (.mv (.s 1))⟩, ⟨none, some 77, .inl (.app 5 1 1 (.s 75) (.s 76))⟩, ⟨none, some 78, .inr (.fn 19 [(.s 77)])⟩, ⟨none, some 72, .inl (.mv (.s 78))⟩, ⟨none, some 79, .inl (.ex (.s 72) 0)⟩, ⟨none, some 80, .inl (.ex (.s 72) 1)⟩, ⟨none, some 14, .inl (.mv (.s 79))⟩, ⟨none, some 15, .inl (.mv (.s 80))⟩]
def k4p9 : Cd := .region [⟨none, some 82, .inl (.bs 5 1 0 [(.int .u8 0)] [])⟩, ⟨none, some 83, .inl (.mv (.s 7))⟩, ⟨none, some 84, .inl (.app 5 1 1 (.s 82) (.s 83))⟩, ⟨none, some 85, .inl (.mv (.s 1))⟩, ⟨none, some 86, .inl (.app 5 1 1 (.s 84) (.s 85))⟩, ⟨none, some 87, .inr (.fn 20 [(.s 86)])⟩, ⟨none, some 81, .inl (.mv (.s 87))⟩, ⟨none, some 88, .inl (.ex (.s 81) 0)⟩, ⟨none, some 89, .inl (.ex (.s 81) 1)⟩, ⟨none, some 16, .inl (.mv (.s 88))⟩, ⟨none, some 17, .inl (.mv (.s 89))⟩]
def k4p10 : Cd := .seq (.region [⟨none, some 90, .inl (.mv (.s 14))⟩, ⟨none, some 91, .inl (.mv (.s 16))⟩, ⟨none, some 92, .inr (.fn 21 [(.s 90), (.s 91)])⟩, ⟨none, some 93, .inl (.not (.s 92))⟩, ⟨none, some 94, .inl (.mv (.s 93))⟩, ⟨some (94, false), some 95, .inl (.mv (.s 15))⟩, ⟨some (94, false), some 96, .inl (.mv (.s 17))⟩, ⟨some (94, false), some 97, .inl (.bin .neq (.s 95) (.s 96))⟩, ⟨none, some 98, .inl (.pick (.s 94) (.c (.bool true)) (.s 97))⟩, ⟨none, some 99, .inl (.mv (.s 98))⟩, ⟨some (99, false), some 100, .inl (.mv (.s 14))⟩, ⟨some (99, false), some 101, .inl (.len (.s 100))⟩, ⟨some (99, false), some 102, .inl (.mv (.s 8))⟩, ⟨some (99, false), some 103, .inl (.len (.s 102))⟩, ⟨some (99, false), some 104, .inl (.bin .lss (.s 101) (.s 103))⟩, ⟨none, some 105, .inl (.pick (.s 99) (.c (.bool true)) (.s 104))⟩, ⟨none, some 106, .inl (.mv (.s 105))⟩, ⟨some (106, false), some 107, .inl (.mv (.s 14))⟩, ⟨some (106, false), some 108, .inl (.mv (.s 8))⟩, ⟨some (106, false), some 109, .inl (.len (.s 108))⟩, ⟨some (106, false), some 110, .inl (.slc 8 (.s 107) none (some (.s 109)) none)⟩, ⟨some (106, false), some 111, .inl (.mv (.s 8))⟩, ⟨some (106, false), some 112, .inr (.fn 21 [(.s 110), (.s 111)])⟩, ⟨some (106, false), some 113, .inl (.not (.s 112))⟩, ⟨none, some 114, .inl (.pick (.s 106) (.c (.bool true)) (.s 113))⟩]) (.cond (.s 114) (.seq (.region [⟨none, some 6, .inl (.mv (.c (.bool false)))⟩]) (.ret)) (.skip))
def k4p11 : Cd := .region [⟨none, some 18, .inl (.mv (.c (.int .i64 0)))⟩]
def k4p12 : Cd := .region [⟨none, some 19, .inl (.mv (.c (.int .i64 0)))⟩]
def k4p13 : Cd := .block 2 (.loop k4l1)
def k4p14 : Cd := .region [⟨none, some 134, .inl (.mv (.s 7))⟩, ⟨none, some 135, .inl (.mv (.s 13))⟩, ⟨none, some 136, .inl (.slc 1 (.s 134) none (some (.s 135)) none)⟩, ⟨none, some 137, .inr (.fn 19 [(.s 136)])⟩, ⟨none, some 133, .inl (.mv (.s 137))⟩, ⟨none, some 138, .inl (.ex (.s 133) 0)⟩, ⟨none, some 139, .inl (.ex (.s 133) 1)⟩, ⟨none, some 20, .inl (.mv (.s 138))⟩, ⟨none, some 21, .inl (.mv (.s 139))⟩]
def k4p15 : Cd := .region [⟨none, some 140, .inl (.mv (.s 20))⟩, ⟨none, some 141, .inl (.mv (.s 8))⟩, ⟨none, some 142, .inl (.mv (.s 18))⟩, ⟨none, some 143, .inl (.slc 8 (.s 141) none (some (.s 142)) none)⟩, ⟨none, some 144, .inr (.fn 21 [(.s 140), (.s 143)])⟩, ⟨none, some 145, .inl (.mv (.s 144))⟩, ⟨some (145, true), some 146, .inl (.mv (.s 21))⟩, ⟨some (145, true), some 147, .inl (.mv (.s 19))⟩, ⟨some (145, true), some 148, .inl (.bin .eql (.s 146) (.s 147))⟩, ⟨none, some 149, .inl (.pick (.s 145) (.s 148) (.c (.bool false)))⟩, ⟨none, some 150, .inl (.mv (.s 149))⟩, ⟨some (150, true), some 151, .inr (.fn 15 [])⟩, ⟨none, some 152, .inl (.pick (.s 150) (.s 151) (.c (.bool false)))⟩, ⟨none, some 6, .inl (.mv (.s 152))⟩]
theorem k4_eq : k4 = .seq k4p0 (.seq k4p1 (.seq k4p2 (.seq k4p3 (.seq k4p4 (.seq k4p5 (.seq k4p6 (.seq k4p7 (.seq k4p8 (.seq k4p9 (.seq k4p10 (.seq k4p11 (.seq k4p12 (.seq k4p13 (.seq k4p14 (.seq k4p15 .ret))))))))))))))) := rfl

def BL (h : Heap) (d : D) (b : List UInt8) : Prop := (b = [] ∧ d = .val (.slice none 0 0)) ∨ ∃ k, d = .slr k 0 b.length 1 none ∧ h.get k = some (.cells 5 (bL b)) ∧ k < h.next ∧ b ≠ []
def coolI (b : Bool) (H : Heap) (k : Nat) : Heap := if b = true then H else H.cool [k]
theorem raw_cool1 (b : Bool) (H : Heap) (k q : Nat) (hq : q ≠ k) : (coolI b H k).raw q = H.raw q := by
  unfold coolI
  cases b with
  | true => rfl
  | false =>
    rw [if_neg (by simp), show (H.cool [k]).raw q = (H.kill [k]).raw q from rfl, Heap.kill_raw]; simp [hq]
theorem next_cool1 (b : Bool) (H : Heap) (k : Nat) : (coolI b H k).next = H.next := by unfold coolI; cases b <;> rfl
theorem Fr_cool1 {b : Bool} {H : Heap} {k : Nat} (f : H.Fr) (hk : k < H.next) : (coolI b H k).Fr := fun q hq => by
  rw [next_cool1] at hq
  rw [raw_cool1 _ _ _ _ (by omega)]; exact f q hq
theorem scan_c {f : Nat} (hs : pg.sh f = false) {m : Nat} {l : List UInt8} (hr : pureCall (rc pg m) f [bD l] = some (.ret (scR l))) {k N : Nat} {cap : Option Nat} {L : List D} (hN : N ≤ l.length) (hL : (L.drop 0).take (N * 1) = bL l) (H : Heap) (hg : H.get k = some (.cells 5 L)) : call pg (rc pg m) f [.slr k 0 N 1 cap] H = some (.ret (scR l), coolI (scR l).flat H k) := by
  have hl : l.length = min N L.length := by
    have := congrArg List.length hL
    rw [List.drop_zero, Nat.mul_one, List.length_take, bL_len] at this
    exact this.symm
  have hNl : N = l.length := by omega
  have hf : frz H depth (.slr k 0 N 1 cap) = some (bD l, [k]) := by
    show frz H (23 + 1) _ = _
    unfold frz
    have h2 : each (frz H 23) (bL l) = some (bL l, []) := each_canon H 22 _ (bL_can l)
    simp only [D.canon, Bool.false_eq_true, if_false, hg, hL, h2, Option.map_some]
    rw [if_pos (by omega), hNl, chunk_one _ _ (bL_len l).symm]
    rfl
  have ha : each (frz H depth) [.slr k 0 N 1 cap] = some ([bD l], [k]) := by
    simp only [each, hf]; rfl
  simp only [call, hs, ha, pureA, pureS, hr, Option.map_some, Bool.false_eq_true, if_false, Out.d, List.isEmpty_cons, Bool.false_or, coolI]

set_option maxHeartbeats 8000000 in
theorem p8_run {m : Nat} (x : Env 153) (h : Heap) (d7 : D) (b T : List UInt8) (v7 : x.v 7 = d7) (v1 : x.v 1 = bD T) (hb : BL h d7 b) (hT : T.length ≤ 500) (hbl : b.length ≤ 200000) (hf : h.Fr) (hm : 2300000 ≤ m) :
    Res (k4p8.ev ⟨pg, 153, none⟩ (rc pg m) ⟨x.l, h, []⟩) (fun y s => y = .normal ∧ ∃ (x' : Env 153) (h' : Heap), s = ⟨x'.l, h', []⟩ ∧ (∀ q, q < 14 → x'.v q = x.v q) ∧ x'.v 14 = enD (scF (b ++ T)).1 ∧ x'.v 15 = D.int (scF (b ++ T)).2 ∧ (∀ q, q < h.next → h'.raw q = h.raw q) ∧ h.next ≤ h'.next ∧ h'.Fr) := by
  have hfr : ∀ j, h.raw (h.next + j) = none := fun j => hf _ (by omega)
  have z0 : zerosD [Value.int .u8 0] 1 0 = [] := rfl
  have src0 : ∀ h : Heap, src h 1 (.sl false []) = some (0, []) := fun h => rfl
  have cs := @scan_run (b ++ T) (by simp; omega) m hm
  have s19 : pg.sh 19 = false := rfl
  have ne : ∀ {q : Nat}, q < 14 → ∀ t, 14 ≤ t → (t = q) = False := fun hq t ht => by simp; omega
  have qn : ∀ {q : Nat}, q < h.next → ∀ j, (q = h.next + j) = False := fun hq j => by simp; omega
  simp only [bD] at v1
  rcases hb with ⟨rfl, rfl⟩ | ⟨k7, rfl, g7, l7, hne⟩
  · by_cases hT0 : T = []
    · subst hT0
      have c := scan_c (k := h.next + 73) (N := 0) (cap := some 0) (L := []) s19 cs (by simp) rfl
      have hb0 : bL [] = [] := rfl
      simp [-src_sl, k4p8, v7, v1, z0, src0, apK_zero_slr, hfr, hb0, c, scR]
      refine ⟨_, _, ⟨rfl, rfl⟩, fun q hq => by simp [ne hq], by simp, by simp, fun q hq => by simp [raw_cool1, qn hq], by simp [next_cool1] <;> omega, Fr_cool1 ?_ (by simp <;> omega)⟩
      repeat' first | exact hf | apply Heap.Fr.bump | apply Heap.Fr.set
      all_goals (simp <;> omega)
    · have t0 : T.length ≠ 0 := by intro e; exact hT0 (List.eq_nil_of_length_eq_zero e)
      have t1 : T.length ≤ 1000000000 := by omega
      have c := scan_c (k := h.next + 77) (N := T.length) (cap := none) (L := bL T) s19 cs (by simp) (by rw [List.drop_zero, Nat.mul_one, List.take_of_length_le (by rw [bL_len]; exact Nat.le_refl _)]; rfl)
      simp [-src_sl, k4p8, v7, v1, z0, src0, src_bL, bL_one, bL_len, apK_zero_slr, apK_some, ap_over, t0, t1, hT0, hfr, c, scR]
      refine ⟨_, _, ⟨rfl, rfl⟩, fun q hq => by simp [ne hq], by simp, by simp, fun q hq => by simp [raw_cool1, qn hq], by simp [next_cool1] <;> omega, Fr_cool1 ?_ (by simp <;> omega)⟩
      repeat' first | exact hf | apply Heap.Fr.bump | apply Heap.Fr.set
      all_goals (simp <;> omega)
  · have b0 : b.length ≠ 0 := by intro e; exact hne (List.eq_nil_of_length_eq_zero e)
    have b1 : b.length ≤ 1000000000 := by omega
    have m7 : ∀ j, (k7 = h.next + j) = False := fun j => by simp; omega
    have tb : (bL b).take b.length = bL b := List.take_of_length_le (by rw [bL_len]; exact Nat.le_refl _)
    by_cases hT0 : T = []
    · subst hT0
      have hb0 : bL [] = [] := rfl
      have c := scan_c (k := h.next + 75) (N := b.length) (cap := none) (L := bL b) s19 cs (by simp) (by rw [List.drop_zero, Nat.mul_one, tb, List.append_nil])
      simp [-src_sl, k4p8, v7, v1, z0, src0, g7, m7, tb, src_bL, bL_one, bL_len, apK_zero_slr, apK_some, ap_over, b0, b1, hne, hfr, hb0, c, scR]
      refine ⟨_, _, ⟨rfl, rfl⟩, fun q hq => by simp [ne hq], by simp, by simp, fun q hq => by simp [raw_cool1, qn hq], by simp [next_cool1] <;> omega, Fr_cool1 ?_ (by simp <;> omega)⟩
      repeat' first | exact hf | apply Heap.Fr.bump | apply Heap.Fr.set
      all_goals (simp <;> omega)
    · have t0 : T.length ≠ 0 := by intro e; exact hT0 (List.eq_nil_of_length_eq_zero e)
      have t1 : b.length + T.length ≤ 1000000000 := by omega
      have t2 : 0 < T.length := by omega
      have c := scan_c (k := h.next + 77) (N := b.length + T.length) (cap := none) (L := bL b ++ bL T) s19 cs (by simp) (by rw [← bL_app, List.drop_zero, Nat.mul_one, List.take_of_length_le (by rw [bL_len]; simp)])
      simp [-src_sl, k4p8, v7, v1, z0, src0, g7, m7, tb, src_bL, bL_one, bL_len, apK_zero_slr, apK_some, ap_over, ap_none, b0, b1, hne, hT0, t0, t1, t2, hfr, c, scR]
      refine ⟨_, _, ⟨rfl, rfl⟩, fun q hq => by simp [ne hq], by simp, by simp, fun q hq => by simp [raw_cool1, qn hq], by simp [next_cool1] <;> omega, Fr_cool1 ?_ (by simp <;> omega)⟩
      repeat' first | exact hf | apply Heap.Fr.bump | apply Heap.Fr.set
      all_goals (simp <;> omega)

set_option maxHeartbeats 8000000 in
theorem p9_run {m : Nat} (x : Env 153) (h : Heap) (d7 : D) (b T : List UInt8) (v7 : x.v 7 = d7) (v1 : x.v 1 = bD T) (hb : BL h d7 b) (hT : T.length ≤ 500) (hbl : b.length ≤ 200000) (hf : h.Fr) (hm : 2300000 ≤ m) :
    Res (k4p9.ev ⟨pg, 153, none⟩ (rc pg m) ⟨x.l, h, []⟩) (fun y s => y = .normal ∧ ∃ (x' : Env 153) (h' : Heap), s = ⟨x'.l, h', []⟩ ∧ (∀ q, q < 16 → x'.v q = x.v q) ∧ x'.v 16 = enD (scF (b ++ T)).1 ∧ x'.v 17 = D.int (scF (b ++ T)).2 ∧ (∀ q, q < h.next → h'.raw q = h.raw q) ∧ h.next ≤ h'.next ∧ h'.Fr) := by
  have hfr : ∀ j, h.raw (h.next + j) = none := fun j => hf _ (by omega)
  have z0 : zerosD [Value.int .u8 0] 1 0 = [] := rfl
  have src0 : ∀ h : Heap, src h 1 (.sl false []) = some (0, []) := fun h => rfl
  have cs := @rscan_run (b ++ T) (by simp; omega) m hm
  have s19 : pg.sh 20 = false := rfl
  have ne : ∀ {q : Nat}, q < 16 → ∀ t, 16 ≤ t → (t = q) = False := fun hq t ht => by simp; omega
  have qn : ∀ {q : Nat}, q < h.next → ∀ j, (q = h.next + j) = False := fun hq j => by simp; omega
  simp only [bD] at v1
  rcases hb with ⟨rfl, rfl⟩ | ⟨k7, rfl, g7, l7, hne⟩
  · by_cases hT0 : T = []
    · subst hT0
      have c := scan_c (k := h.next + 82) (N := 0) (cap := some 0) (L := []) s19 cs (by simp) rfl
      have hb0 : bL [] = [] := rfl
      simp [-src_sl, k4p9, v7, v1, z0, src0, apK_zero_slr, hfr, hb0, c, scR]
      refine ⟨_, _, ⟨rfl, rfl⟩, fun q hq => by simp [ne hq], by simp, by simp, fun q hq => by simp [raw_cool1, qn hq], by simp [next_cool1] <;> omega, Fr_cool1 ?_ (by simp <;> omega)⟩
      repeat' first | exact hf | apply Heap.Fr.bump | apply Heap.Fr.set
      all_goals (simp <;> omega)
    · have t0 : T.length ≠ 0 := by intro e; exact hT0 (List.eq_nil_of_length_eq_zero e)
      have t1 : T.length ≤ 1000000000 := by omega
      have c := scan_c (k := h.next + 86) (N := T.length) (cap := none) (L := bL T) s19 cs (by simp) (by rw [List.drop_zero, Nat.mul_one, List.take_of_length_le (by rw [bL_len]; exact Nat.le_refl _)]; rfl)
      simp [-src_sl, k4p9, v7, v1, z0, src0, src_bL, bL_one, bL_len, apK_zero_slr, apK_some, ap_over, t0, t1, hT0, hfr, c, scR]
      refine ⟨_, _, ⟨rfl, rfl⟩, fun q hq => by simp [ne hq], by simp, by simp, fun q hq => by simp [raw_cool1, qn hq], by simp [next_cool1] <;> omega, Fr_cool1 ?_ (by simp <;> omega)⟩
      repeat' first | exact hf | apply Heap.Fr.bump | apply Heap.Fr.set
      all_goals (simp <;> omega)
  · have b0 : b.length ≠ 0 := by intro e; exact hne (List.eq_nil_of_length_eq_zero e)
    have b1 : b.length ≤ 1000000000 := by omega
    have m7 : ∀ j, (k7 = h.next + j) = False := fun j => by simp; omega
    have tb : (bL b).take b.length = bL b := List.take_of_length_le (by rw [bL_len]; exact Nat.le_refl _)
    by_cases hT0 : T = []
    · subst hT0
      have hb0 : bL [] = [] := rfl
      have c := scan_c (k := h.next + 84) (N := b.length) (cap := none) (L := bL b) s19 cs (by simp) (by rw [List.drop_zero, Nat.mul_one, tb, List.append_nil])
      simp [-src_sl, k4p9, v7, v1, z0, src0, g7, m7, tb, src_bL, bL_one, bL_len, apK_zero_slr, apK_some, ap_over, b0, b1, hne, hfr, hb0, c, scR]
      refine ⟨_, _, ⟨rfl, rfl⟩, fun q hq => by simp [ne hq], by simp, by simp, fun q hq => by simp [raw_cool1, qn hq], by simp [next_cool1] <;> omega, Fr_cool1 ?_ (by simp <;> omega)⟩
      repeat' first | exact hf | apply Heap.Fr.bump | apply Heap.Fr.set
      all_goals (simp <;> omega)
    · have t0 : T.length ≠ 0 := by intro e; exact hT0 (List.eq_nil_of_length_eq_zero e)
      have t1 : b.length + T.length ≤ 1000000000 := by omega
      have t2 : 0 < T.length := by omega
      have c := scan_c (k := h.next + 86) (N := b.length + T.length) (cap := none) (L := bL b ++ bL T) s19 cs (by simp) (by rw [← bL_app, List.drop_zero, Nat.mul_one, List.take_of_length_le (by rw [bL_len]; simp)])
      simp [-src_sl, k4p9, v7, v1, z0, src0, g7, m7, tb, src_bL, bL_one, bL_len, apK_zero_slr, apK_some, ap_over, ap_none, b0, b1, hne, hT0, t0, t1, t2, hfr, c, scR]
      refine ⟨_, _, ⟨rfl, rfl⟩, fun q hq => by simp [ne hq], by simp, by simp, fun q hq => by simp [raw_cool1, qn hq], by simp [next_cool1] <;> omega, Fr_cool1 ?_ (by simp <;> omega)⟩
      repeat' first | exact hf | apply Heap.Fr.bump | apply Heap.Fr.set
      all_goals (simp <;> omega)
end Go.Proofs.YtkbamkdgiglljaaGreat
/- The law of scans: pieces, further. -/
namespace Go.Proofs.YtkbamkdgiglljaaGreat
open Go Go.Em
set_option maxRecDepth 100000
theorem get_of_raw {h h' : Heap} {k : Nat} (e : h'.raw k = h.raw k) : h'.get k = h.get k := by unfold Heap.get; rw [e]
theorem BL.keep {h h' : Heap} {d : D} {b : List UInt8} (g : BL h d b) (hn : h.next ≤ h'.next) (hk : ∀ k, k < h.next → h'.raw k = h.raw k) : BL h' d b := by
  rcases g with g | ⟨k, h1, h2, h3, h4⟩
  · exact .inl g
  · exact .inr ⟨k, h1, by rw [get_of_raw (hk k h3)]; exact h2, by omega, h4⟩
theorem EL.keepr {h h' : Heap} {d : D} {es : List Ent} (g : EL h d es) (hn : h.next ≤ h'.next) (hk : ∀ k, k < h.next → h'.raw k = h.raw k) : EL h' d es := g.keep hn fun k q => get_of_raw (hk k q)
theorem L3.bl {h : Heap} {d7 d8 d9 : D} {V : List Ent} (g : L3 h d7 d8 d9 V) : BL h d7 (frsL V) ∧ EL h d8 V ∧ ((V = [] ∧ d9 = .val (.slice none 0 0)) ∨ ∃ k9, d9 = .slr k9 0 V.length 1 none ∧ h.get k9 = some (.cells 3 ((endsF V).map D.int)) ∧ k9 < h.next) := by
  rcases g with ⟨rfl, rfl, rfl, rfl⟩ | ⟨k7, k8, k9, rfl, rfl, rfl, g7, g8, g9, l7, l8, l9, hne⟩
  · exact ⟨.inl ⟨rfl, rfl⟩, .inl ⟨rfl, rfl⟩, .inl ⟨rfl, rfl⟩⟩
  · refine ⟨.inr ⟨k7, rfl, g7, l7, ?_⟩, .inr ⟨k8, rfl, g8, l8, hne⟩, .inr ⟨k9, rfl, g9, l9⟩⟩
    cases V with
    | nil => exact absurd rfl hne
    | cons x V =>
      intro e
      have := congrArg List.length e
      rw [show frsL (x :: V) = frL (encL x) ++ frsL V from rfl, List.length_append, frL_len] at this
      simp at this
theorem p7_run {m : Nat} (x : Env 153) (h : Heap) (d7 : D) (b : List UInt8) (c : Int) (v7 : x.v 7 = d7) (v2 : x.v 2 = D.int c) (hb : BL h d7 b) (hbl : b.length ≤ 200000) (hf : h.Fr) (hm : 10 ≤ m) :
    Res (k4p7.ev ⟨pg, 153, none⟩ (rc pg m) ⟨x.l, h, []⟩) (fun y s => y = .normal ∧ ∃ (x' : Env 153) (h' : Heap) (k : Nat), s = ⟨x'.l, h', []⟩ ∧ (∀ q, q < 13 → x'.v q = x.v q) ∧ k ≤ b.length ∧ x'.v 13 = D.int k ∧ (∀ q, q < h.next → h'.raw q = h.raw q) ∧ h.next ≤ h'.next ∧ h'.Fr) := by
  obtain ⟨k, hk, hr⟩ := mod_run c (b.length + 1) (by omega) (by omega) (n := m) (by omega)
  have w1 : IntKind.i64.wrap ((b.length : Int) + 1) = ((b.length + 1 : Nat) : Int) := by rw [wrap_i64 (by omega) (by omega)]; omega
  have w0 : IntKind.i64.wrap 1 = 1 := by decide
  have ne : ∀ {q : Nat}, q < 13 → ∀ t, 13 ≤ t → (t = q) = False := fun hq t ht => by simp; omega
  have cm := fun h => call_of (h := h) (pg := pg) (f := 18) (args := [D.int c, D.int ((b.length + 1 : Nat) : Int)]) rfl rfl hr
  rcases hb with ⟨rfl, rfl⟩ | ⟨k7, rfl, g7, l7, hne⟩
  · have cm' : ∀ h, call pg (rc pg m) 18 [D.int c, D.int 1] h = some (.ret (D.int k), h) := cm
    obtain rfl : k = 0 := by simpa using hk
    simp [k4p7, v7, v2, w0, cm']
    exact ⟨_, _, ⟨rfl, rfl⟩, fun q hq => by simp [ne hq], by simp, fun q hq => by simp, by simp, hf.bump _⟩
  · obtain ⟨q1, hq1⟩ : ∃ q, q = b.length + 1 := ⟨_, rfl⟩
    rw [← hq1] at w1 cm
    simp [k4p7, v7, v2, w1, cm]
    exact ⟨_, _, ⟨rfl, rfl⟩, fun q hq => by simp [ne hq], k, by omega, by simp, fun q hq => by simp, by simp, hf.bump _⟩
theorem same_c {m : Nat} (hm : 1100000 ≤ m) {H : Heap} {d : D} {V : List Ent} (g : EL H d V) (hV : V.length ≤ 1000000) : call pg (rc pg m) 21 [enD V, d] H = some (.ret (D.bool true), H) := by
  obtain ⟨ks, hf⟩ := el_frz g 22
  have hf : frz H depth d = some (enD V, ks) := hf
  have h1 : frz H depth (enD V) = some (enD V, []) := frz_canon (by simp [enD, esL_can])
  have ha : each (frz H depth) [enD V, d] = some ([enD V, enD V], ks) := by
    simp only [each, hf, h1]; simp
  have hr := same_run V hV hm
  have hs : pg.sh 21 = false := rfl
  simp only [call, hs, ha, pureA, pureS, hr, Option.map_some, Bool.false_eq_true, if_false, Out.d, D.flat, Bool.or_true, if_true]
theorem headE : ∀ V : List Ent, headOk 8 (V.map entD) = true
  | [] => rfl
  | _ :: _ => rfl
set_option maxHeartbeats 8000000 in
theorem p10_run {m : Nat} (x : Env 153) (h : Heap) (d8 : D) (V R : List Ent) (N : Int) (v14 : x.v 14 = enD (V ++ R)) (v16 : x.v 16 = enD (V ++ R)) (v15 : x.v 15 = D.int N) (v17 : x.v 17 = D.int N) (v8 : x.v 8 = d8) (g8 : EL h d8 V) (hl : (V ++ R).length ≤ 1000000) (hf : h.Fr) (hm : 1100000 ≤ m) :
    Res (k4p10.ev ⟨pg, 153, none⟩ (rc pg m) ⟨x.l, h, []⟩) (fun y s => y = .normal ∧ ∃ (x' : Env 153) (h' : Heap), s = ⟨x'.l, h', []⟩ ∧ (∀ q, q < 18 → x'.v q = x.v q) ∧ (∀ q, q < h.next → h'.raw q = h.raw q) ∧ h.next ≤ h'.next ∧ h'.Fr) := by
  have hl2 : V.length ≤ 1000000 := by simp at hl; omega
  have c1 := fun h => call_of (h := h) (pg := pg) (f := 21) rfl (enD_can2 (V ++ R) (V ++ R)) (same_run (V ++ R) hl hm)
  have g8' : EL (h.bump 153) d8 V := g8.keep (by simp) fun k _ => by simp
  have c2 := same_c hm g8' hl2
  have ne : ∀ {q : Nat}, q < 18 → ∀ t, 18 ≤ t → (t = q) = False := fun hq t ht => by simp; omega
  have hN : (N != N) = false := by simp
  have hlt : ¬ (((V ++ R).length : Nat) : Int) < V.length := by simp; omega
  have hle : (V.length : Int) ≤ ((V ++ R).length : Nat) := by simp; omega
  have htk : ((V ++ R).map entD).take V.length = V.map entD := by rw [← List.map_take, List.take_left' rfl]
  have hh := headE (V ++ R)
  obtain ⟨W, hW⟩ : ∃ W, W = V ++ R := ⟨_, rfl⟩
  rw [← hW] at v14 v16 c1 hlt hle htk hh
  obtain ⟨L, hL⟩ : ∃ L, L = W.map entD := ⟨_, rfl⟩
  have lL : L.length = W.length := by rw [hL]; simp
  simp only [enD] at v14 v16 c1 c2
  rw [← hL] at v14 v16 c1 htk hh
  have wl : d8.wk = .sl false [] ∧ V.length = 0 ∨ ∃ k, d8.wk = .slr k 0 V.length 8 none := by
    rcases g8 with ⟨rfl, rfl⟩ | ⟨k, rfl, _, _, _⟩
    · exact .inl ⟨rfl, rfl⟩
    · exact .inr ⟨k, rfl⟩
  rcases g8 with ⟨rfl, rfl⟩ | ⟨k, rfl, gk, lk, hne⟩
  · simp only [List.length_nil, List.take_zero, List.map_nil] at htk c2
    simp [-bne_self_eq_false, k4p10, v14, v15, v16, v17, v8, c1, c2, hN, lL, hh, show ¬ ((W.length : Nat) : Int) < 0 by omega]
    exact ⟨_, _, ⟨rfl, rfl⟩, fun q hq => by simp [ne hq], fun q hq => by simp, by simp, hf.bump _⟩
  · simp [-bne_self_eq_false, k4p10, v14, v15, v16, v17, v8, c1, c2, hN, lL, hh, hlt, hle, htk]
    exact ⟨_, _, ⟨rfl, rfl⟩, fun q hq => by simp [ne hq], fun q hq => by simp, by simp, hf.bump _⟩
end Go.Proofs.YtkbamkdgiglljaaGreat
/- The law of scans: its last pieces. -/
namespace Go.Proofs.YtkbamkdgiglljaaGreat
open Go Go.Em
set_option maxRecDepth 100000
theorem es_tk (V : List Ent) {w : Nat} (hw : w ≤ V.length) : (V.flatMap entL).take (w * 8) = (V.take w).flatMap entL := by
  have e : V.flatMap entL = (V.take w).flatMap entL ++ (V.drop w).flatMap entL := by rw [← List.flatMap_append, List.take_append_drop]
  rw [e]
  exact List.take_left' (by rw [es_len, List.length_take, Nat.min_eq_left hw])
theorem same_c2 {m : Nat} (hm : 1100000 ≤ m) {H : Heap} {k w : Nat} {V : List Ent} (hg : H.get k = some (.cells 25 (V.flatMap entL))) (hw : w ≤ V.length) (hV : V.length ≤ 1000000) : call pg (rc pg m) 21 [enD (V.take w), .slr k 0 w 8 none] H = some (.ret (D.bool true), H) := by
  have hf : frz H depth (.slr k 0 w 8 none) = some (enD (V.take w), [k]) := by
    show frz H (23 + 1) _ = _
    unfold frz
    have h1 : ((V.flatMap entL).drop 0).take (w * 8) = (V.take w).flatMap entL := by rw [List.drop_zero, es_tk V hw]
    have h2 : each (frz H 23) ((V.take w).flatMap entL) = some ((V.take w).flatMap entL, []) := each_canon H 22 _ (es_can _)
    simp only [D.canon, Bool.false_eq_true, if_false, hg, h1, h2, Option.map_some]
    rw [if_pos (by rw [es_len]; omega), chunk_flatMap entL (by decide) (fun _ => rfl) (V.take w) w (by simp; omega)]
    rfl
  have hcn : (enD (V.take w)).canon = true := by
    show (!false && D.canonL ((V.take w).map entD)) = true
    rw [esL_can]; rfl
  have h1 : frz H depth (enD (V.take w)) = some (enD (V.take w), []) := frz_canon hcn
  have ha : each (frz H depth) [enD (V.take w), .slr k 0 w 8 none] = some ([enD (V.take w), enD (V.take w)], [k]) := by
    simp only [each, hf, h1]; simp
  have hr := same_run (V.take w) (by simp; omega) hm
  have hs : pg.sh 21 = false := rfl
  simp only [call, hs, ha, pureA, pureS, hr, Option.map_some, Bool.false_eq_true, if_false, Out.d, D.flat, Bool.or_true, if_true]
set_option maxHeartbeats 8000000 in
theorem p14_run {m : Nat} (x : Env 153) (h : Heap) (d7 d8 : D) (b : List UInt8) (V : List Ent) (k : Nat) (v7 : x.v 7 = d7) (v13 : x.v 13 = D.int k) (hk : k ≤ b.length) (hb : BL h d7 b) (hbl : b.length ≤ 200000) (g8 : EL h d8 V) (hm : 2300000 ≤ m) :
    Res (k4p14.ev ⟨pg, 153, none⟩ (rc pg m) ⟨x.l, h, []⟩) (fun y s => y = .normal ∧ ∃ (x' : Env 153) (h' : Heap), s = ⟨x'.l, h', []⟩ ∧ (∀ q, q < 20 → x'.v q = x.v q) ∧ x'.v 20 = enD (scF (b.take k)).1 ∧ x'.v 21 = D.int (scF (b.take k)).2 ∧ EL h' d8 V) := by
  have cs := @scan_run (b.take k) (by simp; omega) m hm
  have s19 : pg.sh 19 = false := rfl
  have ne : ∀ {q : Nat}, q < 20 → ∀ t, 20 ≤ t → (t = q) = False := fun hq t ht => by simp; omega
  rcases hb with ⟨rfl, rfl⟩ | ⟨k7, rfl, g7, l7, hne⟩
  · obtain rfl : k = 0 := by simpa using hk
    have c : ∀ H, call pg (rc pg m) 19 [.val (.slice none 0 0)] H = some (.ret (scR []), H) := fun H => by
      have ha : each (frz H depth) [.val (.slice none 0 0)] = some ([bD []], []) := rfl
      exact call_frz (pg := pg) (f := 19) rfl ha cs
    simp [k4p14, v7, v13, c, scR]
    exact ⟨_, _, ⟨rfl, rfl⟩, fun q hq => by simp [ne hq], by simp, by simp, g8.keep (by simp) fun k _ => by simp⟩
  · have c := scan_c (k := k7) (N := k) (cap := none) (L := bL b) s19 cs (by simp; omega) (by rw [List.drop_zero, Nat.mul_one, bL_take])
    have kz : (k : Int) ≤ b.length := by omega
    simp [k4p14, v7, v13, g7, c, scR, sliceR, upTo, mxOk, mxCap, kz]
    refine ⟨_, _, ⟨rfl, rfl⟩, fun q hq => by simp [ne hq], by simp, by simp, ?_⟩
    rcases g8 with g | ⟨k8, a1, a2, a3, a4⟩
    · exact .inl g
    · have n : k8 ≠ k7 := by rintro rfl; rw [g7] at a2; cases a2
      refine .inr ⟨k8, a1, ?_, by rw [next_cool1]; simp; omega, a4⟩
      rw [get_of_raw (raw_cool1 _ _ _ _ n)]
      simpa using a2
set_option maxHeartbeats 8000000 in
theorem p15_run {m : Nat} (x : Env 153) (h : Heap) (d8 : D) (V : List Ent) (w : Nat) (N : Int) (v8 : x.v 8 = d8) (v18 : x.v 18 = D.int w) (v19 : x.v 19 = D.int N) (v20 : x.v 20 = enD (V.take w)) (v21 : x.v 21 = D.int N) (hw : w ≤ V.length) (g8 : EL h d8 V) (hV : V.length ≤ 1000000) (hm : 1100000 ≤ m) :
    Res (k4p15.ev ⟨pg, 153, none⟩ (rc pg m) ⟨x.l, h, []⟩) (fun y s => y = .normal ∧ ∃ (x' : Env 153) (h' : Heap), s = ⟨x'.l, h', []⟩ ∧ x'.v 6 = D.bool true) := by
  have cs := @sane_call m (by omega)
  have hN : (N == N) = true := by simp
  rcases g8 with ⟨rfl, rfl⟩ | ⟨k, rfl, gk, lk, hne⟩
  · obtain rfl : w = 0 := by simpa using hw
    have c := fun H : Heap => same_c hm (H := H) (d := .val (.slice none 0 0)) (V := []) (.inl ⟨rfl, rfl⟩) (by simp)
    simp only [List.take_zero] at v20
    simp [k4p15, v8, v18, v19, v20, v21, c, cs, hN]
    exact ⟨_, rfl, by simp⟩
  · have gk' : (h.bump 153).get k = some (.cells 25 (V.flatMap entL)) := by simpa using gk
    have c := same_c2 hm gk' hw hV
    have wz : (w : Int) ≤ V.length := by omega
    simp [k4p15, v8, v18, v19, v20, v21, gk, c, cs, hN, wz, sliceR, upTo, mxOk, mxCap]
    exact ⟨_, rfl, by simp⟩
end Go.Proofs.YtkbamkdgiglljaaGreat
/- The law: Sum and Scan agree with the document's own; behind frames any bytes may stand; of a beginning of frames just those are read that are there as a whole. -/
namespace Go.Proofs.YtkbamkdgiglljaaGreat
open Go Go.Em
set_option maxRecDepth 100000
theorem Res.endsT {o : Option (Ex × St)} {k : St → Option (Ex × St)} {R : Rc} {rs : List (ResultVar × Bool × Nat)} {out : Out} {P : Ex → St → Prop} (h : Res o P) (hk : ∀ x s, P x s → endK R rs (andThen (some (x, s)) k) = some out) : endK R rs (andThen o k) = some out := by
  obtain ⟨x, s, rfl, p⟩ := h; exact hk x s p
theorem scN_len : ∀ (f : Nat) (l : List UInt8), (scN f l).1.length ≤ f
  | 0, l => Nat.le_refl _
  | f + 1, l => by
    unfold scN
    split
    · have := scN_len f (l.drop (8 + numF l))
      simp only [List.length_cons]; omega
    · simp
theorem BL.keepg {h h' : Heap} {d : D} {b : List UInt8} (g : BL h d b) (hn : h.next ≤ h'.next) (hk : ∀ k, k < h.next → h'.get k = h.get k) : BL h' d b := by
  rcases g with g | ⟨k, h1, h2, h3, h4⟩
  · exact .inl g
  · exact .inr ⟨k, h1, by rw [hk k h3]; exact h2, by omega, h4⟩
set_option maxHeartbeats 16000000 in
theorem scans_all (es : List Ent) (t : List UInt8) (c : Int) (hes : es.length ≤ 9000000000000000) (ht : t.length ≤ 9000000000000000) {n : Nat} (hn : 20000000000000000 ≤ n) : pureCall (rc pg n) 4 [enD es, bD t, D.int c] = some (.ret (D.bool true)) := by
  obtain ⟨m, rfl, e⟩ := body (pg := pg) (f := 4) (args := [enD es, bD t, D.int c]) (show 0 < n by omega) rfl rfl
  rw [e, k4_eq]
  obtain ⟨z, hz⟩ : ∃ z, z = min t.length 500 := ⟨_, rfl⟩
  obtain ⟨T, hT⟩ : ∃ T, T = t.take z := ⟨_, rfl⟩
  have lT : T.length = z := by rw [hT, List.length_take]; omega
  have hmin : min (t.length : Int) 500 = (z : Int) := by omega
  have zt : (z : Int) ≤ t.length := by omega
  have hbT : (bL t).take z = bL T := by rw [bL_take, hT]
  have c16 := fun h => call_of (h := h) (pg := pg) (f := 16) rfl (bD_can T) (sum_run (n := m) T (by omega) (by omega))
  have c17 := fun h => call_of (h := h) (pg := pg) (f := 17) rfl (bD_can T) (rsum_run (n := m) T (by omega) (by omega))
  have hsum : ((sumF T : Int) != (sumF T : Int)) = false := by simp
  simp only [bD] at c16 c17
  simp [-bne_self_eq_false, k4p0, k4p1, k4p2, k4p3, k4p4, k4p5, k4p6, Env.v_ini, bD, hmin, zt, hbT, bL_len, head_bL, c16, c17, hsum, ev_loop]
  refine Res.endsAfter (lp_rule 30000 (LpI es c T) _ (lp_round es c T hes) es.length m _ (by omega) ⟨_, _, 0, [], _, _, _, rfl, by omega, by omega, by simp [Env.v_ini], by simp [bD], by simp [Env.v_ini], rfl, rfl, rfl, by simp, .inl ⟨rfl, by simp, by simp, by simp⟩, by simp, by simp, ?_⟩) ?_
  · repeat' first | exact Heap.Fr.empty | apply Heap.Fr.bump | apply Heap.Fr.set
  rintro y s ⟨rfl, i, x, h, j, V, d7, d8, d9, rfl, hij, hj20, v0, v1, v2, v7, v8, v9, v10, hl3, hVj, hok, hf⟩
  obtain ⟨hb, g8, hd⟩ := hl3.bl
  have hfl := frs_len hok
  simp only [blockK_exit, if_true, andThen_normal, ev_seq]
  refine Res.endsT (p7_run x h d7 (frsL V) c v7 v2 hb (by omega) hf (by omega)) ?_
  rintro y s ⟨rfl, x1, h1, k, rfl, s1, hk, v13, r1, n1, f1⟩
  simp only [andThen_normal, ev_seq]
  have hb1 := hb.keep n1 r1
  have g81 := g8.keepr n1 r1
  refine Res.endsT (p8_run x1 h1 d7 (frsL V) T (by rw [s1 7 (by omega), v7]) (by rw [s1 1 (by omega), v1]) hb1 (by omega) (by omega) f1 (by omega)) ?_
  rintro y s ⟨rfl, x2, h2, rfl, s2, v14, v15, r2, n2, f2⟩
  simp only [andThen_normal, ev_seq]
  have hb2 := hb1.keep n2 r2
  have g82 := g81.keepr n2 r2
  refine Res.endsT (p9_run x2 h2 d7 (frsL V) T (by rw [s2 7 (by omega), s1 7 (by omega), v7]) (by rw [s2 1 (by omega), s1 1 (by omega), v1]) hb2 (by omega) (by omega) f2 (by omega)) ?_
  rintro y s ⟨rfl, x3, h3, rfl, s3, v16, v17, r3, n3, f3⟩
  simp only [andThen_normal, ev_seq]
  have hb3 := hb2.keep n3 r3
  have g83 := g82.keepr n3 r3
  have hsc := scF_frames V T hok
  rw [hsc] at v14 v15 v16 v17
  have lsc := scN_len T.length T
  refine Res.endsT (p10_run x3 h3 d8 V (scF T).1 _ (by rw [s3 14 (by omega), v14]) v16 (by rw [s3 15 (by omega), v15]) v17 (by rw [s3 8 (by omega), s2 8 (by omega), s1 8 (by omega), v8]) g83 (by rw [List.length_append]; unfold scF; omega) f3 (by omega)) ?_
  rintro y s ⟨rfl, x4, h4, rfl, s4, r4, n4, f4⟩
  have hb4 := hb3.keep n4 r4
  have g84 := g83.keepr n4 r4
  have up : ∀ q, q < 14 → x4.v q = if q = 13 then D.int k else x.v q := fun q hq => by
    rw [s4 q (by omega), s3 q (by omega), s2 q hq]
    split
    · rename_i e; subst e; exact v13
    · exact s1 q (by omega)
  simp only [andThen_normal, ev_seq]
  simp [k4p11, k4p12, k4p13, ev_loop]
  obtain ⟨x5, hx5⟩ : ∃ x5, x5 = (x4.upd 18 (D.val (Value.int .i64 0))).upd 19 (D.val (Value.int .i64 0)) := ⟨_, rfl⟩
  rw [← hx5]
  have w9 : x5.v 9 = d9 := by rw [hx5]; simp [up 9 (by omega), v9]
  have w7 : x5.v 7 = d7 := by rw [hx5]; simp [up 7 (by omega), v7]
  have w8 : x5.v 8 = d8 := by rw [hx5]; simp [up 8 (by omega), v8]
  have w13 : x5.v 13 = D.int k := by rw [hx5]; simp [up 13 (by omega)]
  have all : ∀ q, q < h.next → ((h4.bump 153).bump 153).get q = h.get q := fun q hq => by
    have e4 := r4 q (by omega)
    have e3 := r3 q (by omega)
    have e2 := r2 q (by omega)
    have e1 := r1 q hq
    simp only [Heap.get_bump']
    exact get_of_raw (by rw [e4, e3, e2, e1])
  have hd5 : (V = [] ∧ d9 = .val (.slice none 0 0)) ∨ ∃ k9, d9 = .slr k9 0 V.length 1 none ∧ ((h4.bump 153).bump 153).get k9 = some (.cells 3 ((endsF V).map D.int)) ∧ k9 < ((h4.bump 153).bump 153).next := by
    rcases hd with g | ⟨k9, a1, a2, a3⟩
    · exact .inl g
    · exact .inr ⟨k9, a1, by rw [all k9 a3]; exact a2, by simp; omega⟩
  refine Res.endsAfter (lp_rule 1 (LwI V k x5 ((h4.bump 153).bump 153) d9) _ (lw_round V (by omega) k x5 ((h4.bump 153).bump 153) d9 w9 w13 hd5) V.length m _ (by omega) ⟨x5, _, 0, rfl, by omega, fun q hq => rfl, by rw [hx5]; simp, by rw [hx5]; simp [frsL], by simp [frsL], fun q hq => rfl, Nat.le_refl _⟩) ?_
  rintro y s ⟨rfl, x6, h6, w, rfl, hw, s6, v18, v19, hle, hor, hg6, n6⟩
  simp only [blockK_exit, if_true, andThen_normal, ev_seq]
  have hb6 : BL h6 d7 (frsL V) := (hb4.keep (h' := (h4.bump 153).bump 153) (by simp; omega) (fun q hq => by simp)).keepg n6 hg6
  have g86 : EL h6 d8 V := (g84.keepr (h' := (h4.bump 153).bump 153) (by simp; omega) (fun q hq => by simp)).keep n6 hg6
  refine Res.endsT (p14_run x6 h6 d7 d8 (frsL V) V k (by rw [s6 7 (by omega), w7]) (by rw [s6 13 (by omega), w13]) hk hb6 (by omega) g86 (by omega)) ?_
  rintro y s ⟨rfl, x7, h7, rfl, s7, v20, v21, g87⟩
  simp only [andThen_normal, ev_seq]
  have hcut := scF_cut hok hw hle (by
    rcases hor with rfl | ⟨a, b⟩
    · exact .inl ⟨rfl, hk⟩
    · exact .inr ⟨a, b⟩)
  rw [hcut] at v20 v21
  refine Res.endsT (p15_run x7 h7 d8 V w _ (by rw [s7 8 (by omega), s6 8 (by omega), w8]) (by rw [s7 18 (by omega), v18]) (by rw [s7 19 (by omega), v19]) v20 v21 hw g87 (by omega) (by omega)) ?_
  rintro y s ⟨rfl, x8, h8, rfl, v6⟩
  simp [v6]
end Go.Proofs.YtkbamkdgiglljaaGreat
