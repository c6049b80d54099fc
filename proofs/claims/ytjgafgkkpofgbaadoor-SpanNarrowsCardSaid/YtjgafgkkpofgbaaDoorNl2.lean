/- The closure does not depend on the order of the claims: the loops of the law. -/
import Derived.Test.YtjgafgkkpofgbaaDoorNar
namespace Go.Proofs.YtjgafgkkpofgbaaDoor
open Go Go.Em Go.Em.Net
set_option maxRecDepth 100000
def NI (l : List Clm) (t : Int) (c : Clm) (r : Nat) (k : Nat) (s : St) : Prop := ∃ (x : Env 137) (h : Heap) (i : Nat) (d : D), s = ⟨x.l, h, []⟩ ∧ i + k = l.length ∧ x.v 0 = clsD l ∧ x.v 1 = D.int t ∧ x.v 5 = .ptr 5 0 ∧ x.v 7 = d ∧ x.v 23 = D.int l.length ∧ x.v 24 = D.int i ∧ GC h d ((rotF l r).take i) ∧ (∀ k o n s' cc, d = .slr k o n s' cc → k ≠ 5) ∧ h.get 5 = some (.cells 27 (clC c)) ∧ 5 < h.next ∧ h.Fr
set_option maxHeartbeats 8000000 in
theorem rot_round (l : List Clm) (t : Int) (c : Clm) (r : Nat) (hr : 0 < l.length → ((t % (l.length : Int)) = (r : Int))) (hl : l.length * 40 ≤ 140737488351232) : ∀ n, 1 ≤ n → ∀ k s, NI l t c r k s → Res (k7l0.ev ⟨pg, 137, none⟩ (rc pg n) s) (Rnd (NI l t c r) (fun x s => x = .exit 0 ∧ NI l t c r 0 s) k) := by
  rintro n hn k s ⟨x, h, i, d, rfl, hik, v0, v1, v5, v7, v23, v24, hd, hd5, h5, h5n, hf⟩
  simp only [clsD] at v0
  by_cases hi : i < l.length
  · have hrr := hr (by omega)
    have hrl : r < l.length := by have := Int.emod_lt_of_pos t (show (0 : Int) < l.length by omega); omega
    obtain ⟨q, hqd⟩ : ∃ q, q = (i + r) % l.length := ⟨_, rfl⟩
    have hql : q < l.length := by rw [hqd]; exact Nat.mod_lt _ (by omega)
    have htk := rot_take hrl hi (by rw [← hqd]; exact hql)
    obtain ⟨a, ha⟩ : ∃ a, l[q] = a := ⟨_, rfl⟩
    have htk' : (rotF l r).take (i + 1) = (rotF l r).take i ++ [a] := by rw [htk, ← ha]; simp [hqd]
    have hmod := fun h => call_of (h := h) (pg := pg) (f := 28) (args := [D.int t, D.int l.length]) rfl (by simp) (mod_run t l.length (by omega) (by omega) (m := n) hn)
    rw [hrr] at hmod
    have w1 : IntKind.i64.wrap ((i : Int) + 1) = (i : Int) + 1 := wrap_i64 (by omega) (by omega)
    have w2 : IntKind.i64.wrap ((i : Int) + r) = ((i + r : Nat) : Int) := by rw [wrap_i64 (by omega) (by omega)]; omega
    have b1 := bin_rem (k := .i64) (a := ((i + r : Nat) : Int)) (b := (l.length : Int)) (by omega)
    have e1 : ((i + r : Nat) : Int).tmod (l.length : Int) = (q : Int) := by rw [Int.tmod_eq_emod_of_nonneg (by omega), hqd]; omega
    rw [e1] at b1
    obtain ⟨ir, hir⟩ : ∃ ir, ir = i + r := ⟨_, rfl⟩
    rw [← hir] at w2 b1
    obtain ⟨O, hO⟩ : ∃ O, O = (rotF l r).take i := ⟨_, rfl⟩
    have hOl : O.length = i := by rw [hO, List.length_take, rot_len]; omega
    rw [← hO] at htk' hd
    have hfr : ∀ j, h.raw (h.next + j) = none := fun j => hf _ (by omega)
    have n5 : ∀ j, (h.next + j = 5) = False := fun j => by simp; omega
    have n5' : ∀ j, (5 = h.next + j) = False := fun j => by simp; omega
    rcases hd with ⟨hO0, rfl⟩ | ⟨kk, rfl, hg, hkk⟩
    · subst hO0
      simp [k7l0, v0, v1, v5, v7, v23, v24, hi, hmod, w1, w2, b1, hql, ha, clD, clC, D.cells, D.one, hfr, Nat.add_assoc, zerosD, apK_some, room, maxLen, List.range_succ]
      refine ⟨k - 1, by omega, _, _, i + 1, .slr (h.next + 315) 0 1 5 none, rfl, by omega, by simp [v0, clsD], by simp [v1], by simp [v5], by simp, by simp [v23], by simp, .inr ⟨h.next + 315, by simp [htk'], by simp [htk', clC], by simp <;> omega⟩, ?_, by simp [n5', h5], by simp <;> omega, ?_⟩
      · intro k o n s' cc e
        have := (D.slr.inj e).1
        omega
      · repeat' first | exact hf | apply Heap.Fr.bump | apply Heap.Fr.set
        all_goals (simp <;> omega)
    · have hk5 := hd5 kk _ _ _ _ rfl
      have ne1 : ∀ j, (h.next + j = kk) = False := fun j => by simp; omega
      have ne2 : ∀ j, (kk = h.next + j) = False := fun j => by simp; omega
      have ne3 : (5 = kk) = False := by simp; omega
      have happ := fun t hh news => appS_none (t := t) (et := 27) (sz := 5) (bytes := 40) (h := hh) (m := 1) (news := news) (k := kk) (n := O.length) (cs := O.flatMap clC) (cells_len O) (by omega) (by unfold room; omega) (by unfold maxLen; omega)
      simp [k7l0, v0, v1, v5, v7, v23, v24, hi, hmod, w1, w2, b1, hql, ha, clD, clC, D.cells, D.one, hfr, Nat.add_assoc, zerosD, apK_some, List.range_succ, hg, ne1, ne2, happ]
      refine ⟨k - 1, by omega, _, _, i + 1, .slr (h.next + 315) 0 (O.length + 1) 5 none, rfl, by omega, by simp [v0, clsD], by simp [v1], by simp [v5], by simp, by simp [v23], by simp, .inr ⟨h.next + 315, by simp [htk'], by simp [htk', clC], by simp <;> omega⟩, ?_, by simp [n5', ne3, h5], by simp <;> omega, ?_⟩
      · intro k o n s' cc e
        have := (D.slr.inj e).1
        omega
      · repeat' first | exact hf | apply Heap.Fr.bump | apply Heap.Fr.set
        all_goals (simp <;> omega)
  · simp [k7l0, v23, v24, hi]
    exact ⟨_, _, i, d, rfl, by omega, by simp [v0, clsD], by simp [v1], by simp [v5], by simp [v7], by simp [v23], by simp [v24], hd.keep (by simp) (by simp), hd5, by simp [h5], by simp <;> omega, hf.bump _⟩
/-- The loops over the marks. -/
def M1 (l x : List Clm) (b9 b14 i : Nat) (k : Nat) (s : St) : Prop := ∃ (y : Env 137) (h : Heap) (j : Nat), s = ⟨y.l, h, []⟩ ∧ j + k = (marksF l).length ∧ y.v 9 = .ptr b9 0 ∧ y.v 14 = .ptr b14 0 ∧ y.v 16 = D.int i ∧ (∀ hi : i < (marksF l).length, y.v 17 = D.int (marksF l)[i]) ∧ y.v 86 = intsD (marksF l) ∧ y.v 87 = D.int (marksF l).length ∧ y.v 88 = D.int i ∧ y.v 94 = intsD (marksF l) ∧ y.v 95 = D.int (marksF l).length ∧ y.v 96 = D.int j ∧ h.get b9 = some (.cells 42 [intsD (marksF l), rowsD (marksF l).length (encM (cloF l))]) ∧ h.get b14 = some (.cells 42 [intsD (marksF x), rowsD (marksF x).length (encM (cloF x))])
set_option maxHeartbeats 8000000 in
theorem nar_round1 (l x : List Clm) (h0 : chkF l = 0) (h1 : chkF x = 0) (hsub : ∀ c, c ∈ l → c ∈ x) (hb : badF x = false) (b9 b14 i : Nat) (hi : i < (marksF l).length) : ∀ n, 100 ≤ n → ∀ k s, M1 l x b9 b14 i k s → Res (k7l1.ev ⟨pg, 137, none⟩ (rc pg n) s) (Rnd (M1 l x b9 b14 i) (fun z s => z = .exit 4 ∧ M1 l x b9 b14 i 0 s) k) := by
  rintro n hn k s ⟨y, h, j, rfl, hjk, v9, v14, v16, v17, v86, v87, v88, v94, v95, v96, g9, g14⟩
  have v17 := v17 hi
  have hl3 := (chk_ok h0).2.2
  have hl3' := (chk_ok h1).2.2
  by_cases hj : j < (marksF l).length
  · have w1 : IntKind.i64.wrap ((j : Int) + 1) = (j : Int) + 1 := wrap_i64 (by omega) (by omega)
    obtain ⟨a, ha⟩ : ∃ a, (marksF l)[i] = a := ⟨_, rfl⟩
    obtain ⟨b, hbb⟩ : ∃ b, (marksF l)[j] = b := ⟨_, rfl⟩
    have hax : a ∈ marksF x := marks_sub hsub a (by rw [← ha]; exact List.getElem_mem hi)
    have hbx : b ∈ marksF x := marks_sub hsub b (by rw [← hbb]; exact List.getElem_mem hj)
    have ua : upF l x i = placeF (marksF x) a := by unfold upF; rw [List.getD_eq_getElem?_getD, List.getElem?_eq_getElem hi, ha]; rfl
    have ub : upF l x j = placeF (marksF x) b := by unfold upF; rw [List.getD_eq_getElem?_getD, List.getElem?_eq_getElem hj, hbb]; rfl
    have hle := clo_enc_sub h0 h1 hsub hb i j
    rw [ua, ub] at hle
    obtain ⟨pa, hpa⟩ : ∃ p, p = placeF (marksF x) a := ⟨_, rfl⟩
    obtain ⟨pb, hpb⟩ : ∃ p, p = placeF (marksF x) b := ⟨_, rfl⟩
    have la : pa < (marksF x).length := by rw [hpa]; exact (place_at hax).1
    have lb : pb < (marksF x).length := by rw [hpb]; exact (place_at hbx).1
    have ca := fun h => call_of (h := h) (pg := pg) (f := 30) rfl (by simp [intsD, ints_canonL]) (@index_run (marksF x) (by omega) a n (by omega))
    have cb := fun h => call_of (h := h) (pg := pg) (f := 30) rfl (by simp [intsD, ints_canonL]) (@index_run (marksF x) (by omega) b n (by omega))
    rw [ix_place hax, ← hpa, Nat.zero_add] at ca
    rw [ix_place hbx, ← hpb, Nat.zero_add] at cb
    rw [← hpa, ← hpb] at hle
    have y1 := fun A => yCs_len (marksF x).length A
    have y2 := fun A => yCs_len (marksF l).length A
    have q1 := fun A h' => yCs_at (n := (marksF x).length) (y := A) lb h'
    have q2 := fun A h' => yCs_at (n := (marksF l).length) (y := A) hj h'
    have i1 : pa + 1 ≤ (marksF x).length := la
    have i2 : pb + 1 ≤ (marksF x).length := lb
    have i3 : i + 1 ≤ (marksF l).length := hi
    have i4 : j + 1 ≤ (marksF l).length := hj
    rw [ha] at v17
    have ng : ¬ (encM (cloF l) i j < encM (cloF x) pa pb) := by omega
    simp only [intsD, rowsD] at v86 v94 ca cb g9 g14
    have p1 : ¬ (pa : Int) < 0 := by omega
    have p2 : ¬ (pb : Int) < 0 := by omega
    simp [k7l1, v9, v14, v16, v17, v94, v95, v96, hi, hj, hbb, la, lb, ca, cb, g9, g14, D.cells, D.one, y1, y2, q1, q2, i1, i2, i3, i4, ng, w1, p1, p2]
    exact ⟨k - 1, by omega, _, _, j + 1, rfl, by omega, by simp [v9], by simp [v14], by simp [v16], fun _ => by simp [v17, ha], by simp [v86, intsD], by simp [v87], by simp [v88], by simp [v94, intsD], by simp [v95], by simp, by simp [g9, intsD, rowsD], by simp [g14, intsD, rowsD]⟩
  · simp [k7l1, v95, v96, hj]
    exact ⟨_, _, j, rfl, by omega, by simp [v9], by simp [v14], by simp [v16], fun _ => by simp [v17], by simp [v86], by simp [v87], by simp [v88], by simp [v94], by simp [v95], by simp [v96], by simp [g9], by simp [g14]⟩
end Go.Proofs.YtjgafgkkpofgbaaDoor
/- The closure does not depend on the order of the claims, and one claim more widens no bound: the law, by the evaluator. -/
namespace Go.Proofs.YtjgafgkkpofgbaaDoor
open Go Go.Em Go.Em.Net
set_option maxRecDepth 100000
def k7t : Cd :=
  .seq (.seq (.region [⟨none, (some 53), .inl (.mv (.s 10))⟩,
    ⟨none, (some 54), .inl (.mv (.s 12))⟩,
    ⟨none, (some 55), .inl (.bin .neq (.s 53) (.s 54))⟩,
    ⟨none, (some 56), .inl (.mv (.s 55))⟩,
    ⟨(some (56, false)), (some 57), .inl (.ld true 2 (.s 9))⟩,
    ⟨(some (56, false)), (some 58), .inl (.ld true 2 (.s 11))⟩,
    ⟨(some (56, false)), (some 59), .inr (.fn 26 [(.s 57), (.s 58)])⟩,
    ⟨(some (56, false)), (some 60), .inl (.not (.s 59))⟩,
    ⟨none, (some 61), .inl (.pick (.s 56) (.c (.bool true)) (.s 60))⟩])
  (.cond (.s 61) (.seq (.region [⟨none, (some 6), .inl (.mv (.c (.bool false)))⟩])
   (.ret))
  (.skip)))
  (.seq (.region [⟨none, (some 62), .inl (.mv (.s 0))⟩,
    ⟨none, (some 63), .inl (.ld true 5 (.s 5))⟩,
    ⟨none, (some 64), .inr (.fn 29 [(.s 62), (.s 63)])⟩,
    ⟨none, (some 13), .inl (.mv (.s 64))⟩])
  (.seq (.region [⟨none, (some 66), .inl (.mv (.s 13))⟩,
    ⟨none, (some 67), .inr (.fn 24 [(.s 66)])⟩,
    ⟨none, (some 65), .inl (.mv (.s 67))⟩,
    ⟨none, (some 68), .inl (.ex (.s 65) 0)⟩,
    ⟨none, (some 69), .inl (.ex (.s 65) 1)⟩,
    ⟨none, (some 14), .inl (.alloc 42 [(.slice none 0 0), (.slice none 0 0)])⟩,
    ⟨none, none, .inl (.st 2 (.s 14) (.s 68))⟩,
    ⟨none, (some 15), .inl (.mv (.s 69))⟩])
  (.seq (.seq (.region [⟨none, (some 70), .inl (.mv (.s 10))⟩,
    ⟨none, (some 71), .inl (.bin .neq (.s 70) (.c (.int .i64 0)))⟩,
    ⟨none, (some 72), .inl (.mv (.s 71))⟩,
    ⟨(some (72, false)), (some 73), .inl (.mv (.s 15))⟩,
    ⟨(some (72, false)), (some 74), .inl (.bin .neq (.s 73) (.c (.int .i64 0)))⟩,
    ⟨none, (some 75), .inl (.pick (.s 72) (.c (.bool true)) (.s 74))⟩])
  (.cond (.s 75) (.seq (.region [⟨none, (some 76), .inl (.mv (.s 10))⟩,
     ⟨none, (some 77), .inl (.bin .eql (.s 76) (.c (.int .i64 0)))⟩,
     ⟨none, (some 78), .inl (.mv (.s 77))⟩,
     ⟨(some (78, false)), (some 79), .inl (.mv (.s 15))⟩,
     ⟨(some (78, false)), (some 80), .inl (.bin .neq (.s 79) (.c (.int .i64 0)))⟩,
     ⟨none, (some 81), .inl (.pick (.s 78) (.c (.bool true)) (.s 80))⟩,
     ⟨none, (some 82), .inl (.mv (.s 81))⟩,
     ⟨(some (82, true)), (some 83), .inr (.fn 17 [])⟩,
     ⟨none, (some 84), .inl (.pick (.s 82) (.s 83) (.c (.bool false)))⟩,
     ⟨none, (some 6), .inl (.mv (.s 84))⟩])
   (.ret))
  (.skip)))
  (.seq (.seq (.region [⟨none, (some 85), .inl (.fa (.s 9) 0)⟩,
    ⟨none, (some 86), .inl (.ld false 1 (.s 85))⟩,
    ⟨none, (some 87), .inl (.len (.s 86))⟩,
    ⟨none, (some 88), .inl (.mv (.c (.int .i64 0)))⟩])
  (.block 2 (.loop k7l2)))
  (.seq (.region [⟨none, (some 136), .inr (.fn 17 [])⟩,
    ⟨none, (some 6), .inl (.mv (.s 136))⟩])
  (.ret))))))
theorem k7_eq : k7 = .seq (.region [⟨none, (some 5), .inl (.box 27 5 (.s 2))⟩,
    ⟨none, (some 6), .inl (.mv (.c (.bool false)))⟩])
  (.seq (.region [⟨none, (some 7), .inl (.mv (.c (.slice none 0 0)))⟩])
  (.seq (.seq (.region [⟨none, (some 22), .inl (.mv (.s 0))⟩,
    ⟨none, (some 23), .inl (.len (.s 22))⟩,
    ⟨none, (some 24), .inl (.mv (.c (.int .i64 0)))⟩])
  (.block 0 (.loop k7l0)))
  (.seq (.region [⟨none, (some 44), .inl (.mv (.s 0))⟩,
    ⟨none, (some 45), .inr (.fn 24 [(.s 44)])⟩,
    ⟨none, (some 43), .inl (.mv (.s 45))⟩,
    ⟨none, (some 46), .inl (.ex (.s 43) 0)⟩,
    ⟨none, (some 47), .inl (.ex (.s 43) 1)⟩,
    ⟨none, (some 9), .inl (.alloc 42 [(.slice none 0 0), (.slice none 0 0)])⟩,
    ⟨none, none, .inl (.st 2 (.s 9) (.s 46))⟩,
    ⟨none, (some 10), .inl (.mv (.s 47))⟩])
  (.seq (.region [⟨none, (some 49), .inl (.mv (.s 7))⟩,
    ⟨none, (some 50), .inr (.fn 24 [(.s 49)])⟩,
    ⟨none, (some 48), .inl (.mv (.s 50))⟩,
    ⟨none, (some 51), .inl (.ex (.s 48) 0)⟩,
    ⟨none, (some 52), .inl (.ex (.s 48) 1)⟩,
    ⟨none, (some 11), .inl (.alloc 42 [(.slice none 0 0), (.slice none 0 0)])⟩,
    ⟨none, none, .inl (.st 2 (.s 11) (.s 51))⟩,
    ⟨none, (some 12), .inl (.mv (.s 52))⟩])
  k7t)))) := rfl
def ncF (l : List Clm) : List D := if cerF l = 0 then [intsD (marksF l), rowsD (marksF l).length (encM (cloF l))] else [.sl false [], .sl false []]
theorem nc_agg (l : List Clm) : cloD' l = .tup [.agg (ncF l), D.int (cerF l)] := by
  unfold cloD' ncF; split <;> rfl
def M2 (l x : List Clm) (b9 b14 : Nat) (k : Nat) (s : St) : Prop := ∃ (y : Env 137) (h : Heap) (i : Nat), s = ⟨y.l, h, []⟩ ∧ i + k = (marksF l).length ∧ y.v 9 = .ptr b9 0 ∧ y.v 14 = .ptr b14 0 ∧ y.v 86 = intsD (marksF l) ∧ y.v 87 = D.int (marksF l).length ∧ y.v 88 = D.int i ∧ h.get b9 = some (.cells 42 [intsD (marksF l), rowsD (marksF l).length (encM (cloF l))]) ∧ h.get b14 = some (.cells 42 [intsD (marksF x), rowsD (marksF x).length (encM (cloF x))])
set_option maxHeartbeats 8000000 in
theorem nar_round2 (l x : List Clm) (h0 : chkF l = 0) (h1 : chkF x = 0) (hsub : ∀ c, c ∈ l → c ∈ x) (hb : badF x = false) (b9 b14 : Nat) : ∀ n, 200 ≤ n → ∀ k s, M2 l x b9 b14 k s → Res (k7l2.ev ⟨pg, 137, none⟩ (rc pg n) s) (Rnd (M2 l x b9 b14) (fun z s => z = .exit 2 ∧ M2 l x b9 b14 0 s) k) := by
  rintro n hn k s ⟨y, h, i, rfl, hik, v9, v14, v86, v87, v88, g9, g14⟩
  have hl3 := (chk_ok h0).2.2
  by_cases hi : i < (marksF l).length
  · have w1 : IntKind.i64.wrap ((i : Int) + 1) = (i : Int) + 1 := wrap_i64 (by omega) (by omega)
    obtain ⟨a, ha⟩ : ∃ a, (marksF l)[i] = a := ⟨_, rfl⟩
    simp only [intsD, rowsD] at v86 g9
    simp [k7l2, v9, v14, v86, v87, v88, hi, ha, g9, D.cells, ev_loop]
    refine Res.after (Res.block (lp_rule 100 (M1 l x b9 b14 i) _ (nar_round1 l x h0 h1 hsub hb b9 b14 i hi) (marksF l).length n _ (by omega) ⟨_, _, 0, rfl, by omega, by simp [v9], by simp [v14], by simp, fun _ => by simp [ha], by simp [v86, intsD], by simp [v87], by simp [v88], by simp [intsD], by simp, by simp, by simp [g9, intsD, rowsD], by simp [g14]⟩) (Q := fun z s => z = .normal ∧ M1 l x b9 b14 i 0 s) ?_) ?_
    · rintro z s ⟨rfl, hr⟩
      simpa using hr
    · rintro z s ⟨rfl, y, h, j, rfl, hj, u9, u14, u16, u17, u86, u87, u88, u94, u95, u96, g9, g14⟩
      simp [u88, w1]
      exact ⟨k - 1, by omega, _, _, i + 1, rfl, by omega, by simp [u9], by simp [u14], by simp [u86], by simp [u87], by simp, by simp [g9], by simp [g14]⟩
  · simp [k7l2, v87, v88, hi]
    exact ⟨_, _, i, rfl, by omega, by simp [v9], by simp [v14], by simp [v86], by simp [v87], by simp [v88], by simp [g9], by simp [g14]⟩
set_option maxHeartbeats 8000000 in
theorem nar_tail (l : List Clm) (c : Clm) (hl : l.length * 40 ≤ 140737488351232) (y : Env 137) (h : Heap) (b9 b11 : Nat) (v0 : y.v 0 = clsD l) (v5 : y.v 5 = .ptr 5 0) (v9 : y.v 9 = .ptr b9 0) (v10 : y.v 10 = D.int (cerF l)) (v11 : y.v 11 = .ptr b11 0) (v12 : y.v 12 = D.int (cerF l))
    (g5 : h.get 5 = some (.cells 27 (clC c))) (g9 : h.get b9 = some (.cells 42 (ncF l))) (g11 : h.get b11 = some (.cells 42 (ncF l))) (hf : h.Fr) (n5 : 5 < h.next) (n9 : b9 < h.next) (n11 : b11 < h.next) {n : Nat} (hn : 2000 ≤ n) : endK (rc pg n) [(.tmp 6, false, 0)] (k7t.ev ⟨pg, 137, none⟩ (rc pg n) ⟨y.l, h, []⟩) = some (.ret (D.bool true)) := by
  have hfr : ∀ j, h.raw (h.next + j) = none := fun j => hf _ (by omega)
  have ne1 : ∀ j, (h.next + j = b9) = False := fun j => by simp; omega
  have ne2 : ∀ j, (b9 = h.next + j) = False := fun j => by simp; omega
  have hs := fun h => @sane_call n (by omega) h
  have hcat : l ++ [c] = l ++ [c] := rfl
  obtain ⟨x, hx⟩ : ∃ x, x = l ++ [c] := ⟨_, rfl⟩
  have hsub : ∀ q, q ∈ l → q ∈ x := fun q hq => by rw [hx]; exact List.mem_append_left _ hq
  have hll : l.length ≤ x.length := by rw [hx]; simp
  have cw := fun h => call_of (h := h) (pg := pg) (f := 29) rfl (by simp [clsD, cl_canon, canonL_map clD cl_canon l]) (@with_c_run l c (by omega) n (by omega))
  rw [← hx] at cw
  have cc := fun h => call_of (h := h) (pg := pg) (f := 24) rfl (cls_canon x) (@close_run x n (by omega))
  rw [nc_agg] at cc
  simp only [clsD, clD, clC] at v0 cw cc
  by_cases he : cerF l = 0
  · obtain ⟨h0, hbl⟩ := cer_ok he
    have hl64 := (chk_ok h0).2.2
    have e1 : ncF l = [intsD (marksF l), rowsD (marksF l).length (encM (cloF l))] := by unfold ncF; rw [if_pos he]
    have sn := fun h => call_of (h := h) (pg := pg) (f := 26) rfl (by have := ints_canonL (marksF l); have := rows_canonL (marksF l).length (encM (cloF l)); simp_all [nD, intsD, rowsD]) (@same_net (marksF l) (encM (cloF l)) (chk_ok h0).2.2 n (by omega))
    rw [e1] at g9 g11
    rw [he] at v10 v12
    simp only [nD, intsD, rowsD] at sn g9 g11
    by_cases hx0 : cerF x = 0
    · obtain ⟨h1, hbx⟩ := cer_ok hx0
      have e2 : ncF x = [intsD (marksF x), rowsD (marksF x).length (encM (cloF x))] := by unfold ncF; rw [if_pos hx0]
      rw [hx0, e2] at cc
      simp only [intsD, rowsD] at cc
      simp [k7t, v0, v5, v9, v10, v11, v12, g5, g9, g11, clC, D.cells, D.one, sn, cw, cc, hfr, Nat.add_assoc, ne1, ne2, ev_loop]
      refine Res.endsAfter (lp_rule 200 (M2 l x b9 (h.next + 288)) _ (nar_round2 l x h0 h1 hsub hbx b9 (h.next + 288)) (marksF l).length n _ (by omega) ⟨_, _, 0, rfl, by omega, by simp [v9], by simp, by simp [intsD], by simp, by simp, by simp [ne2, g9, intsD, rowsD], by simp [intsD, rowsD]⟩) ?_
      rintro z s ⟨rfl, y, h, i, rfl, _⟩
      simp [hs]
    · have hx0' : (cerF x != 0) = true := by simpa using hx0
      have e2 : ncF x = [.sl false [], .sl false []] := by unfold ncF; rw [if_neg hx0]
      rw [e2] at cc
      simp [-bne_iff_ne, k7t, v0, v5, v9, v10, v11, v12, g5, g9, g11, clC, D.cells, D.one, sn, cw, cc, hfr, Nat.add_assoc, ne1, ne2, hx0', hs]
  · have he' : (cerF l == 0) = false := by simpa using he
    have he2 : (cerF l != 0) = true := by simpa using he
    have e1 : ncF l = [.sl false [], .sl false []] := by unfold ncF; rw [if_neg he]
    have hx0 : cerF x ≠ 0 := fun e => by
      obtain ⟨h1, hbx⟩ := cer_ok e
      have h0 := chk_sub hll hsub h1
      exact he (cer_of h0 (bad_sub h0 h1 hsub hbx))
    have hx0' : (cerF x != 0) = true := by simpa using hx0
    have e2 : ncF x = [.sl false [], .sl false []] := by unfold ncF; rw [if_neg hx0]
    have sn := fun h => call_of (h := h) (pg := pg) (f := 26) rfl (by simp [nilN]) (@same_nil n (by omega))
    rw [e1] at g9 g11
    rw [e2] at cc
    simp only [nilN] at sn
    simp [-bne_iff_ne, -beq_eq_false_iff_ne, k7t, v0, v5, v9, v10, v11, v12, g5, g9, g11, clC, D.cells, D.one, sn, cw, cc, hfr, Nat.add_assoc, ne1, ne2, he', he2, hx0', hs]
theorem callK {pg : Pg} {R : Rc} {f : FuncId} {a : D} {args bs : List D} {ks : List Nat} {h : Heap} {o : Out} (hs : pg.sh f = false) (ha : each (Go.Em.frz h depth) (a :: args) = some (bs, ks)) (x : pureCall R f bs = some o) : call pg R f (a :: args) h = some (o, if (ks.isEmpty || o.d.flat) = true then h else h.kill ks) := by
  simp only [call, hs, ha, pureA, pureS, x, orS, Option.map_some, Bool.false_eq_true, if_false]
theorem gc_call {h : Heap} {d : D} {l : List Clm} (g : GC h d l) {n : Nat} (hn : 1200 ≤ n) : ∃ h', call pg (rc pg n) 24 [d] h = some (.ret (cloD' l), h') ∧ h'.next = h.next ∧ ((∃ k o m s c, d = .slr k o m s c ∧ ∀ j, j ≠ k → h'.raw j = h.raw j) ∨ h' = h) := by
  have s24 : pg.sh 24 = false := rfl
  have cr := @close_run l n hn
  rcases g with ⟨rfl, rfl⟩ | ⟨k, rfl, g, _⟩
  · have hz : each (frz h depth) [D.val (.slice none 0 0)] = some ([clsD []], []) := rfl
    have := callK (h := h) s24 hz cr
    exact ⟨h, by simpa using this, rfl, .inr rfl⟩
  · have hz : each (frz h depth) [D.slr k 0 l.length 5 none] = some ([clsD l], [k]) := by
      have hea := each_canon h 22 (l.flatMap clC) (cells_canon l)
      have hc : (l.flatMap clC).take (l.length * 5) = l.flatMap clC := List.take_of_length_le (by rw [cells_len]; omega)
      have h1 : frz h depth (.slr k 0 l.length 5 none) = some (clsD l, [k]) := by
        show frz h 24 _ = _
        rw [frz_slr, g, frzS_cells]
        simp only [List.drop_zero, hc, hea, Option.map_some, cells_chunk l l.length rfl, Nat.zero_add]
        rw [if_pos ⟨by rw [cells_len]; omega, by omega⟩]; rfl
      rw [each_cons, h1, each_nil, eachK_some]; rfl
    have := callK (h := h) s24 hz cr
    refine ⟨_, this, ?_, .inl ⟨k, 0, l.length, 5, none, rfl, fun j hj => ?_⟩⟩
    · split <;> simp
    · split <;> simp [hj]
set_option maxHeartbeats 8000000 in
theorem narrows_law (l : List Clm) (t : Int) (c : Clm) (hl : l.length * 40 ≤ 140737488351232) {n : Nat} (hn : l.length + 3000 ≤ n) : pureCall (rc pg n) 7 [clsD l, D.int t, clD c] = some (.ret (D.bool true)) := by
  obtain ⟨m, rfl, e⟩ := body (pg := pg) (f := 7) (args := [clsD l, D.int t, clD c]) (show 0 < n by omega) rfl rfl
  rw [e, k7_eq]
  obtain ⟨r, hr⟩ : ∃ r : Nat, 0 < l.length → t % (l.length : Int) = (r : Int) := ⟨(t % (l.length : Int)).toNat, fun h => by have := Int.emod_nonneg t (show (l.length : Int) ≠ 0 by omega); omega⟩
  simp [Env.v_ini, clsD, clD, clC, D.cells, D.one, ev_loop]
  refine Res.endsAfter (lp_rule 1 (NI l t c r) _ (rot_round l t c r hr hl) l.length m _ (by omega) ⟨_, _, 0, .val (.slice none 0 0), rfl, by omega, by simp [Env.v_ini, clsD], by simp [Env.v_ini], by simp, by simp, by simp, by simp, .inl ⟨by simp, rfl⟩, (fun k o n s' cc e => by cases e), by simp [clC], by simp, ?_⟩) ?_
  · repeat' first | exact Heap.Fr.empty | apply Heap.Fr.bump | apply Heap.Fr.set
    all_goals (simp <;> omega)
  · rintro z s ⟨rfl, y, h, i, d, rfl, hi, v0, v1, v5, v7, v23, v24, hd, hd5, h5, h5n, hf⟩
    have hil : i = l.length := by omega
    subst hil
    rw [List.take_of_length_le (by rw [rot_len]; omega)] at hd
    have hfr : ∀ j, h.raw (h.next + j) = none := fun j => hf _ (by omega)
    have c1 := fun h => call_of (h := h) (pg := pg) (f := 24) rfl (cls_canon l) (@close_run l m (by omega))
    rw [nc_agg] at c1
    simp only [clsD] at c1 v0
    obtain ⟨u, w, hnc⟩ : ∃ u w, ncF l = [.sl false u, .sl false w] := by unfold ncF; split <;> exact ⟨_, _, rfl⟩
    rw [hnc] at c1
    obtain ⟨H, hH⟩ : ∃ H, H = (((h.bump 137).set (h.next + 9) (some (.cells 42 [D.val (.slice none 0 0), D.val (.slice none 0 0)]))).set (h.next + 9) (some (.cells 42 [D.sl false u, D.sl false w]))).bump 137 := ⟨_, rfl⟩
    have hHf : H.Fr := by
      rw [hH]
      repeat' first | exact hf | apply Heap.Fr.bump | apply Heap.Fr.set
      all_goals (simp <;> omega)
    have hHn : H.next = h.next + 274 := by rw [hH]; simp
    have hHr : ∀ j, j < h.next → H.raw j = h.raw j := fun j hj => by rw [hH]; simp [show j ≠ h.next + 9 by omega]
    have hHg : ∀ j, j < h.next → H.get j = h.get j := fun j hj => by unfold Heap.get; rw [hHr j hj]
    have hdH : GC H d (rotF l r) := hd.keep (by rw [hHn]; omega) hHg
    obtain ⟨H', cX, hn', hk'⟩ := gc_call (n := m) hdH (by omega)
    have hkeep : ∀ j, (j = 5 ∨ h.next ≤ j) → H'.raw j = H.raw j := by
      intro j hj
      rcases hk' with ⟨k, o, m', s', c', rfl, hk⟩ | rfl
      · rcases hd with ⟨_, e⟩ | ⟨k2, e, _, hk2⟩
        · cases e
        · obtain rfl := (D.slr.inj e).1
          have := hd5 k _ _ _ _ rfl
          exact hk j (by omega)
      · rfl
    have hHf' : H'.Fr := by
      intro j hj
      rw [hkeep j (.inr (by omega)), hHf j (by omega)]
    have g5' : H'.get 5 = some (.cells 27 (clC c)) := by unfold Heap.get; rw [hkeep 5 (.inl rfl), hHr 5 h5n]; exact h5
    have g9' : H'.get (h.next + 9) = some (.cells 42 [D.sl false u, D.sl false w]) := by unfold Heap.get; rw [hkeep _ (.inr (by omega)), hH]; simp
    have hmem := rot_mem l r
    have hlen := (rot_len l r).symm
    have ecer : cerF (rotF l r) = cerF l := by
      unfold cerF
      rw [← chk_perm hlen hmem]
      by_cases h0 : chkF l = 0
      · have h1 : chkF (rotF l r) = 0 := by rw [← chk_perm hlen hmem]; exact h0
        rw [← bad_perm h0 h1 hmem]
      · rw [if_pos h0, if_pos h0]
    have enc' : ncF (rotF l r) = ncF l := by
      unfold ncF
      rw [ecer]
      by_cases h0 : cerF l = 0
      · obtain ⟨h1, h2⟩ := cer_ok h0
        have h3 : chkF (rotF l r) = 0 := by rw [← chk_perm hlen hmem]; exact h1
        rw [if_pos h0, if_pos h0, ← marks_perm hmem, ← clo_perm h1 h3 hmem]
      · rw [if_neg h0, if_neg h0]
    rw [nc_agg, ecer, enc', hnc] at cX
    have hfr' : ∀ j, H'.raw (h.next + 137 + j) = none := fun j => by
      rw [hkeep _ (.inr (by omega)), hH]
      have := hf (h.next + 137 + j) (by omega)
      simp [show ¬ h.next + 137 + j = h.next + 9 by omega, this]
    simp [v0, v7, D.cells, D.one, hfr, c1, ← hH, cX, hfr']
    have e10 : h.next + 137 + 11 = h.next + 148 := by omega
    refine nar_tail l c hl _ _ (h.next + 9) (h.next + 137 + 11) (by simp [v0, clsD]) (by simp [v5]) (by simp) (by simp) (by simp) (by simp) ?_ ?_ ?_ ?_ ?_ ?_ ?_ (by omega)
    · simp [g5']
    · rw [hnc]; simp [g9']
    · rw [hnc]; simp
    · repeat' first | exact hHf' | apply Heap.Fr.bump | apply Heap.Fr.set
      all_goals (try simp)
      all_goals omega
    · simp; omega
    · simp; omega
    · simp; omega
end Go.Proofs.YtjgafgkkpofgbaaDoor
