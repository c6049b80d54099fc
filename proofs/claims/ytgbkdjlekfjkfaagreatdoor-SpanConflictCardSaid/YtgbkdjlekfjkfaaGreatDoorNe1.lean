/- The graph of some of the claims, by the program. -/
import Derived.Test.YtgbkdjlekfjkfaaGreatDoorMul
import Derived.Test.YtgbkdjlekfjkfaaGreatDoorMul
import Derived.Test.YtgbkdjlekfjkfaaGreatDoorPl
namespace Go.Proofs.YtgbkdjlekfjkfaaGreatDoor
open Go Go.Em Go.Em.Net
set_option maxRecDepth 100000
def uF (U : Nat → Bool) : Nat → List Clm → List Clm
  | _, [] => []
  | i, c :: l => if U i = true then c :: uF U (i + 1) l else uF U (i + 1) l
def muF (M : List Int) (U : Nat → Bool) : Nat → List Clm → List Mo
  | _, [] => []
  | i, c :: l => if U i = true then movF M i c ++ muF M U (i + 1) l else muF M U (i + 1) l
theorem uF_snoc (U : Nat → Bool) (c : Clm) : ∀ (l : List Clm) (i : Nat), uF U i (l ++ [c]) = uF U i l ++ if U (i + l.length) = true then [c] else []
  | [], i => by simp [uF]
  | a :: l, i => by
    have ih := uF_snoc U c l (i + 1)
    rw [List.cons_append, uF, uF, ih, show i + 1 + l.length = i + (a :: l).length by simp; omega]
    split <;> simp
theorem muF_snoc (M : List Int) (U : Nat → Bool) (c : Clm) : ∀ (l : List Clm) (i : Nat), muF M U i (l ++ [c]) = muF M U i l ++ if U (i + l.length) = true then movF M (i + l.length) c else []
  | [], i => by simp [muF]
  | a :: l, i => by
    have ih := muF_snoc M U c l (i + 1)
    rw [List.cons_append, muF, muF, ih, show i + 1 + l.length = i + (a :: l).length by simp; omega]
    split <;> simp
theorem uF_len (U : Nat → Bool) : ∀ (l : List Clm) (i : Nat), (uF U i l).length ≤ l.length
  | [], _ => Nat.le_refl _
  | c :: l, i => by
    have := uF_len U l (i + 1)
    rw [uF]
    split <;> simp <;> omega
theorem uF_take (U : Nat → Bool) (l : List Clm) (i : Nat) : (uF U 0 (l.take i)).length ≤ (uF U 0 l).length := by
  have key : ∀ (l : List Clm) (i j : Nat), (uF U j (l.take i)).length ≤ (uF U j l).length := by
    intro l
    induction l with
    | nil => intro i j; simp [uF]
    | cons c l ih =>
      intro i j
      cases i with
      | zero => simp [uF]
      | succ i =>
        have := ih i (j + 1)
        rw [List.take_succ_cons, uF, uF]
        split <;> simp <;> omega
  exact key l i 0
theorem muF_len (M : List Int) (U : Nat → Bool) : ∀ (l : List Clm) (i : Nat), (muF M U i l).length = 2 * (uF U i l).length
  | [], _ => rfl
  | c :: l, i => by
    have := muF_len M U l (i + 1)
    rw [muF, uF]
    split
    · rw [List.length_append, this]; simp [movF]; omega
    · exact this
theorem uF_mem {U : Nat → Bool} : ∀ {l : List Clm} {i : Nat} {c : Clm}, c ∈ uF U i l → c ∈ l
  | [], _, _, h => by cases h
  | a :: l, i, c, h => by
    rw [uF] at h
    split at h
    · rcases List.mem_cons.1 h with rfl | h
      · exact List.mem_cons_self
      · exact List.mem_cons_of_mem _ (uF_mem h)
    · exact List.mem_cons_of_mem _ (uF_mem h)
theorem muF_mvs (M : List Int) (U : Nat → Bool) : ∀ (l : List Clm) (i j : Nat), mvs (muF M U i l) = mvs (movsF M j (uF U i l))
  | [], _, _ => rfl
  | c :: l, i, j => by
    rw [muF, uF]
    split
    · have := muF_mvs M U l (i + 1) (j + 1)
      rw [movsF]
      unfold mvs at this ⊢
      rw [List.map_append, List.map_append, this]
      rfl
    · exact muF_mvs M U l (i + 1) j
def G0u (l : List Clm) (U : Nat → Bool) (fd : D) (k : Nat) (s : St) : Prop := ∃ (x : Env 81) (h : Heap) (i ub rb : Nat), s = ⟨x.l, h, []⟩ ∧ i + k = l.length ∧ x.v 0 = clsD l ∧ x.v 1 = fd ∧ x.v 16 = clsD l ∧ x.v 17 = D.int l.length ∧ x.v 18 = D.int i ∧ x.v 5 = .slr ub 0 (uF U 0 (l.take i)).length 5 (some l.length) ∧ x.v 4 = .ptr rb 0 ∧ h.get ub = some (.cells 70 ((uF U 0 (l.take i)).flatMap clC)) ∧ h.get rb = some (.cells 65 nil2) ∧ ub < h.next ∧ rb < h.next ∧ ub ≠ rb ∧ h.Fr
theorem uF_step {U : Nat → Bool} {l : List Clm} {i : Nat} {c : Clm} (hc : l[i]? = some c) : uF U 0 (l.take (i + 1)) = uF U 0 (l.take i) ++ if U i = true then [c] else [] := by
  have hi := (List.getElem?_eq_some_iff.1 hc).1
  rw [List.take_add_one, hc]
  simp only [Option.toList_some]
  rw [uF_snoc, Nat.zero_add, List.length_take, Nat.min_eq_left (by omega)]
theorem muF_step {M : List Int} {U : Nat → Bool} {l : List Clm} {i : Nat} {c : Clm} (hc : l[i]? = some c) : muF M U 0 (l.take (i + 1)) = muF M U 0 (l.take i) ++ if U i = true then movF M i c else [] := by
  have hi := (List.getElem?_eq_some_iff.1 hc).1
  rw [List.take_add_one, hc]
  simp only [Option.toList_some]
  rw [muF_snoc, Nat.zero_add, List.length_take, Nat.min_eq_left (by omega)]
set_option maxHeartbeats 8000000 in
theorem usedu_round (l : List Clm) (hl : l.length ≤ 400) (U : Nat → Bool) (F : FuncId) (caps : List D) (hF : pg.sh F = false) (hcc : D.canonL caps = true) (N0 : Nat) (hV : ∀ n, N0 ≤ n → ∀ i, i < l.length → pureCall (rc pg n) F (D.int i :: caps) = some (.ret (D.bool (U i)))) :
    ∀ n, N0 ≤ n → ∀ k s, G0u l U (.fn (.func F) [] caps) k s → Res (k39l0.ev ⟨pg, 81, none⟩ (rc pg n) s) (Rnd (G0u l U (.fn (.func F) [] caps)) (fun x s => x = .exit 0 ∧ G0u l U (.fn (.func F) [] caps) 0 s) k) := by
  rintro n hn k s ⟨x, h, i, ub, rb, rfl, hik, v0, v1, v16, v17, v18, v5, v4, hu, hr, un, rn, hne, hf⟩
  simp only [clsD] at v16
  by_cases hi : i < l.length
  · obtain ⟨c, hc⟩ : ∃ c, l[i] = c := ⟨_, rfl⟩
    have hco : l[i]? = some c := by rw [List.getElem?_eq_getElem hi, hc]
    have hstep := uF_step (U := U) hco
    have w1 : IntKind.i64.wrap ((i : Int) + 1) = (i : Int) + 1 := wrap_i64 (by omega) (by omega)
    have hfr : ∀ j, h.raw (h.next + j) = none := fun j => hf _ (by omega)
    have n1 : ∀ j, (ub = h.next + j) = False := fun j => by simp; omega
    have n2 : ∀ j, (rb = h.next + j) = False := fun j => by simp; omega
    have n3 : (rb = ub) = False := by simp; omega
    have n4 : ∀ j, (h.next + j = ub) = False := fun j => by simp; omega
    have c47 := fun h => call_of (h := h) (pg := pg) (f := F) (args := D.int i :: caps) hF (by simp [hcc]) (hV n hn i hi)
    obtain ⟨u, hul⟩ : ∃ u, u = (uF U 0 (l.take i)).length := ⟨_, rfl⟩
    have hule : u ≤ i := by have := uF_len U (l.take i) 0; rw [List.length_take] at this; omega
    rw [← hul] at v5
    cases hU : U i with
    | true =>
      rw [hU, if_pos rfl] at hstep
      rw [hU] at c47
      have hsn : (uF U 0 (l.take (i + 1))).flatMap clC = (uF U 0 (l.take i)).flatMap clC ++ clC c := by rw [hstep]; simp
      have hln : (uF U 0 (l.take (i + 1))).length = u + 1 := by rw [hstep, List.length_append, ← hul]; rfl
      have hz5 : zerosD [.int .i64 0, .int .i64 0, .int .i64 0, .int .i64 0, .int .i64 0] 5 1 = [D.int 0, D.int 0, D.int 0, D.int 0, D.int 0] := rfl
      have happ : ∀ (t : Nat) (h : Heap), appS t 70 5 40 h 1 (clC c) ub 0 u 5 (some l.length) (some (.cells 70 ((uF U 0 (l.take i)).flatMap clC))) = some (.slr ub 0 (u + 1) 5 (some l.length), h.set ub (some (.cells 70 ((uF U 0 (l.take i)).flatMap clC ++ clC c)))) := fun t h =>
        appS_cap (by rw [length_flatMap (sz := 5) clC (fun _ => rfl), hul]) (by omega) (by unfold room; omega) (by unfold maxLen; omega)
      simp only [clC] at happ
      simp [k39l0, v0, v1, v16, v17, v18, v5, v4, hi, hc, clD, clC, happ, hz5, D.cells, D.one, hfr, Nat.add_assoc, n1, n2, n3, n4, hu, hr, c47, w1, apK_some]
      refine ⟨k - 1, by omega, _, _, i + 1, ub, rb, rfl, by omega, by simp [v0], by simp [v1], by simp [v16, clsD], by simp [v17], by simp, by rw [hln]; simp, by simp [v4], ?_, by simp [n2, n3, hr], by simp; omega, by simp; omega, hne, ?_⟩
      · rw [hsn]; simp [clC]
      · repeat' first | exact hf | apply Heap.Fr.bump | apply Heap.Fr.set
        all_goals (simp <;> omega)
    | false =>
      rw [hU, if_neg (by simp), List.append_nil] at hstep
      rw [hU] at c47
      simp [k39l0, v0, v1, v16, v17, v18, v5, v4, hi, hc, clD, clC, D.cells, D.one, hfr, Nat.add_assoc, n1, n2, n3, n4, hu, hr, c47, w1]
      refine ⟨k - 1, by omega, _, _, i + 1, ub, rb, rfl, by omega, by simp [v0], by simp [v1], by simp [v16, clsD], by simp [v17], by simp, by rw [hstep]; simp [v5, hul], by simp [v4], by rw [hstep]; simp [n1, hu], by simp [n2, hr], by simp; omega, by simp; omega, hne, ?_⟩
      repeat' first | exact hf | apply Heap.Fr.bump | apply Heap.Fr.set
      all_goals (simp <;> omega)
  · simp [k39l0, v17, v18, hi]
    exact ⟨_, _, i, ub, rb, rfl, by omega, by simp [v0], by simp [v1], by simp [v16, clsD], by simp [v17], by simp [v18], by simp [v5], by simp [v4], by simp [hu], by simp [hr], by simp; omega, by simp; omega, hne, hf.bump _⟩
end Go.Proofs.YtgbkdjlekfjkfaaGreatDoor
/- The graph of some of the claims, by the program: the moves; the function. -/
namespace Go.Proofs.YtgbkdjlekfjkfaaGreatDoor
open Go Go.Em Go.Em.Net
set_option maxRecDepth 100000
def G1u (M : List Int) (l : List Clm) (U : Nat → Bool) (T : Nat) (fd : D) (k : Nat) (s : St) : Prop := ∃ (x : Env 81) (h : Heap) (i gb mb rb : Nat), s = ⟨x.l, h, []⟩ ∧ i + k = l.length ∧ x.v 1 = fd ∧ x.v 38 = clsD l ∧ x.v 39 = D.int l.length ∧ x.v 40 = D.int i ∧ x.v 8 = .ptr gb 0 ∧ x.v 4 = .ptr rb 0 ∧ h.get gb = some (.cells 65 [intsD M, .slr mb 0 (2 * (uF U 0 (l.take i)).length) 5 (some (2 * T))]) ∧ h.get mb = some (.cells 148 ((muF M U 0 (l.take i)).flatMap moC)) ∧ h.get rb = some (.cells 65 nil2) ∧ gb < h.next ∧ mb < h.next ∧ rb < h.next ∧ gb ≠ mb ∧ gb ≠ rb ∧ mb ≠ rb ∧ h.Fr
set_option maxHeartbeats 16000000 in
theorem movesu_round (M : List Int) (hM : Rise M) (hml : M.length ≤ 64) (l : List Clm) (hl : l.length ≤ 400) (U : Nat → Bool) (hin : ∀ i c, l[i]? = some c → U i = true → c.a ∈ M ∧ c.b ∈ M ∧ -100000 ≤ c.lo ∧ c.lo ≤ 100000) (F : FuncId) (caps : List D) (hF : pg.sh F = false) (hcc : D.canonL caps = true) (N0 : Nat) (hN : 80 ≤ N0) (hV : ∀ n, N0 ≤ n → ∀ i, i < l.length → pureCall (rc pg n) F (D.int i :: caps) = some (.ret (D.bool (U i)))) :
    ∀ n, N0 ≤ n → ∀ k s, G1u M l U (uF U 0 l).length (.fn (.func F) [] caps) k s → Res (k39l1.ev ⟨pg, 81, none⟩ (rc pg n) s) (Rnd (G1u M l U (uF U 0 l).length (.fn (.func F) [] caps)) (fun x s => x = .exit 2 ∧ G1u M l U (uF U 0 l).length (.fn (.func F) [] caps) 0 s) k) := by
  rintro n hn k s ⟨x, h, i, gb, mb, rb, rfl, hik, v1, v38, v39, v40, v8, v4, hg, hm, hr, gn, mn, rn, d1, d2, d3, hf⟩
  simp only [clsD] at v38
  simp only [intsD] at hg
  by_cases hi : i < l.length
  · obtain ⟨c, hc⟩ : ∃ c, l[i] = c := ⟨_, rfl⟩
    have hco : l[i]? = some c := by rw [List.getElem?_eq_getElem hi, hc]
    have hstep := uF_step (U := U) hco
    have mstep := muF_step (M := M) (U := U) hco
    have w1 : IntKind.i64.wrap ((i : Int) + 1) = (i : Int) + 1 := wrap_i64 (by omega) (by omega)
    have hfr : ∀ j, h.raw (h.next + j) = none := fun j => hf _ (by omega)
    have n1 : ∀ j, (gb = h.next + j) = False := fun j => by simp; omega
    have n2 : ∀ j, (mb = h.next + j) = False := fun j => by simp; omega
    have n3 : ∀ j, (rb = h.next + j) = False := fun j => by simp; omega
    have m1 : ∀ j, (h.next + j = gb) = False := fun j => by simp; omega
    have m2 : ∀ j, (h.next + j = mb) = False := fun j => by simp; omega
    have d1' : (gb = mb) = False := by simp [d1]
    have d4' : (mb = gb) = False := by simp [Ne.symm d1]
    have d5' : (rb = gb) = False := by simp [Ne.symm d2]
    have d6' : (rb = mb) = False := by simp [Ne.symm d3]
    have c47 := fun h => call_of (h := h) (pg := pg) (f := F) (args := D.int i :: caps) hF (by simp [hcc]) (hV n hn i hi)
    obtain ⟨u, hul⟩ : ∃ u, u = (uF U 0 (l.take i)).length := ⟨_, rfl⟩
    have hule : u ≤ i := by have := uF_len U (l.take i) 0; rw [List.length_take] at this; omega
    rw [← hul] at hg
    cases hU : U i with
    | true =>
      rw [hU, if_pos rfl] at hstep mstep
      rw [hU] at c47
      obtain ⟨ma, mb', lo1, lo2⟩ := hin i c hco hU
      obtain ⟨pa, ea⟩ := place_at ma
      obtain ⟨pb, eb⟩ := place_at mb'
      have w2 : IntKind.i64.wrap (-c.lo) = -c.lo := wrap_i64 (by omega) (by omega)
      have s37 : pg.sh 100 = false := rfl
      have pla := @place_run M hM (by omega) _ pa n (by omega)
      have plb := @place_run M hM (by omega) _ pb n (by omega)
      rw [ea] at pla
      rw [eb] at plb
      simp only [intsD] at pla plb
      have hcan := ints_canonL M
      have hz5 : zerosD [.int .i64 0, .int .i64 0, .int .i64 0, .int .i64 0, .int .i64 0] 5 1 = [D.int 0, D.int 0, D.int 0, D.int 0, D.int 0] := rfl
      have hz10 : zerosD [.int .i64 0, .bool false, .int .i64 0, .int .i64 0, .int .i64 0] 5 2 = [D.int 0, D.bool false, D.int 0, D.int 0, D.int 0, D.int 0, D.bool false, D.int 0, D.int 0, D.int 0] := rfl
      have hln : (uF U 0 (l.take (i + 1))).length = u + 1 := by rw [hstep, List.length_append, ← hul]; rfl
      have hT : u + 1 ≤ (uF U 0 l).length := by have := uF_take U l (i + 1); omega
      have hsn : (muF M U 0 (l.take (i + 1))).flatMap moC = (muF M U 0 (l.take i)).flatMap moC ++ (movF M i c).flatMap moC := by rw [mstep, List.flatMap_append]
      have happ : ∀ (t : Nat) (h : Heap) (X : List D), appS t 148 5 40 h 2 X mb 0 (2 * u) 5 (some (2 * (uF U 0 l).length)) (some (.cells 148 ((muF M U 0 (l.take i)).flatMap moC))) = some (.slr mb 0 (2 * u + 2) 5 (some (2 * (uF U 0 l).length)), h.set mb (some (.cells 148 ((muF M U 0 (l.take i)).flatMap moC ++ X)))) := fun t h X =>
        appS_cap (by rw [length_flatMap (sz := 5) moC (fun _ => rfl), muF_len, hul]) (by omega) (by unfold room; omega) (by unfold maxLen; omega)
      simp [k39l1, v1, v38, v39, v40, v8, v4, hi, hc, clD, clC, hz5, hz10, D.cells, D.one, hfr, Nat.add_assoc, n1, n2, n3, m1, m2, d1', d4', d5', d6', hg, hm, hr, c47, w1, w2, dcore_f, s37, hcan, pla, plb, apK_some, happ]
      refine ⟨k - 1, by omega, _, _, i + 1, gb, mb, rb, rfl, by omega, by simp [v1], by simp [v38, clsD], by simp [v39], by simp, by simp [v8], by simp [v4], by rw [hln]; simp [n1, d1', intsD, Nat.mul_add], ?_, by simp [n3, d5', d6', hr], by simp; omega, by simp; omega, by simp; omega, d1, d2, d3, ?_⟩
      · rw [hsn]; simp [n2, d4', movF, moC]
      · repeat' first | exact hf | apply Heap.Fr.bump | apply Heap.Fr.set
        all_goals (simp <;> omega)
    | false =>
      rw [hU, if_neg (by simp), List.append_nil] at hstep mstep
      rw [hU] at c47
      simp [k39l1, v1, v38, v39, v40, v8, v4, hi, hc, clD, clC, D.cells, D.one, hfr, Nat.add_assoc, n1, n2, n3, m1, m2, hg, hm, hr, c47, w1]
      refine ⟨k - 1, by omega, _, _, i + 1, gb, mb, rb, rfl, by omega, by simp [v1], by simp [v38, clsD], by simp [v39], by simp, by simp [v8], by simp [v4], by rw [hstep, ← hul]; simp [n1, hg, intsD], by rw [mstep]; simp [n2, hm], by simp [n3, hr], by simp; omega, by simp; omega, by simp; omega, d1, d2, d3, ?_⟩
      repeat' first | exact hf | apply Heap.Fr.bump | apply Heap.Fr.set
      all_goals (simp <;> omega)
  · simp [k39l1, v39, v40, hi]
    exact ⟨_, _, i, gb, mb, rb, rfl, by omega, by simp [v1], by simp [v38, clsD], by simp [v39], by simp [v40], by simp [v8], by simp [v4], by simp [hg, intsD], by simp [hm], by simp [hr], by simp; omega, by simp; omega, by simp; omega, d1, d2, d3, hf.bump _⟩
theorem uF_at {U : Nat → Bool} : ∀ {l : List Clm} {i j : Nat} {c : Clm}, l[j]? = some c → U (i + j) = true → c ∈ uF U i l
  | a :: l, i, 0, c, h, hU => by
    simp only [List.getElem?_cons_zero, Option.some.injEq] at h
    subst h
    rw [uF, if_pos (by simpa using hU)]
    exact List.mem_cons_self
  | a :: l, i, j + 1, c, h, hU => by
    have := uF_at (i := i + 1) (l := l) (j := j) (by simpa using h) (by rw [show i + 1 + j = i + (j + 1) by omega]; exact hU)
    rw [uF]
    split
    · exact List.mem_cons_of_mem _ this
    · exact this
theorem marks_used {l : List Clm} {U : Nat → Bool} : ∀ v, v ∈ marksF (uF U 0 l) → v ∈ marksF l := by
  intro v hv
  obtain ⟨c, hc, e⟩ := (marks_mem _ v).1 hv
  exact (marks_mem _ v).2 ⟨c, uF_mem hc, e⟩
set_option maxHeartbeats 16000000 in
theorem graphu_run (l : List Clm) (h0 : chkF l = 0) (U : Nat → Bool) (F : FuncId) (caps : List D) (hF : pg.sh F = false) (hcc : D.canonL caps = true) (N0 : Nat) (hN : 80 ≤ N0) (hV : ∀ n, N0 ≤ n → ∀ i, i < l.length → pureCall (rc pg n) F (D.int i :: caps) = some (.ret (D.bool (U i)))) {n : Nat} (hn : N0 + 1000 ≤ n) :
    pureCall (rc pg n) 39 [clsD l, .fn (.func F) [] caps] = some (.ret (grD (marksF (uF U 0 l)) (muF (marksF (uF U 0 l)) U 0 l))) := by
  obtain ⟨m, rfl, e⟩ := body (pg := pg) (f := 39) (args := [clsD l, .fn (.func F) [] caps]) (show 0 < n by omega) rfl rfl
  rw [e]
  obtain ⟨hl1, hl2, hl3⟩ := chk_ok h0
  obtain ⟨V, hVd⟩ : ∃ V, V = uF U 0 l := ⟨_, rfl⟩
  have hVl : V.length ≤ l.length := by rw [hVd]; exact uF_len U l 0
  have hok : ∀ c ∈ V, (0 ≤ c.a ∧ c.a ≤ 2048) ∧ (0 ≤ c.b ∧ c.b ≤ 2048) := fun c hc => ok_marks (hl2 c (uF_mem (by rw [← hVd]; exact hc)))
  have hml : (marksF V).length ≤ 64 := Nat.le_trans (rise_len _ _ (marks_rise V) (marks_rise l) (by rw [hVd]; exact marks_used)) hl3
  have c36 := @marks_run V hok (by omega) m (by omega)
  have s36 : pg.sh 99 = false := rfl
  have hz0 : zerosD [.int .i64 0, .int .i64 0, .int .i64 0, .int .i64 0, .int .i64 0] 5 0 = [] := rfl
  have hz1 : zerosD [.int .i64 0, .bool false, .int .i64 0, .int .i64 0, .int .i64 0] 5 0 = [] := rfl
  have hroom : (40 : Int) * l.length ≤ (room : Int) := by unfold room; omega
  have hroom2 : (40 : Int) * (2 * V.length) ≤ (room : Int) := by unfold room; omega
  have w1 : IntKind.i64.wrap (2 * (V.length : Int)) = 2 * (V.length : Int) := wrap_i64 (by omega) (by omega)
  simp [k39, Env.v_ini, clsD, hz0, hroom, ev_loop]
  refine Res.endsAfter (lp_rule N0 (G0u l U (.fn (.func F) [] caps)) _ (usedu_round l hl1 U F caps hF hcc N0 hV) l.length m _ (by omega) ⟨_, _, 0, 96, 4, rfl, by omega, by simp [Env.v_ini, clsD], by simp [Env.v_ini], by simp [clsD], by simp, by simp, by simp [uF], by simp, by simp [uF], by simp [nil2], by simp, by simp, by omega, ?_⟩) ?_
  · repeat' first | exact Heap.Fr.empty | apply Heap.Fr.bump | apply Heap.Fr.set
    all_goals (simp <;> omega)
  · rintro x s ⟨rfl, x, h, i, ub, rb, rfl, hi, v0, v1, v16, v17, v18, v5, v4, hu, hr, un, rn, hne, hf⟩
    have hil : i = l.length := by omega
    subst hil
    rw [List.take_length, ← hVd] at hu v5
    simp only [clsD] at v0
    have n1 : ∀ j, (ub = h.next + j) = False := fun j => by simp; omega
    have hfz : ∀ H : Heap, frzS H 23 ub 0 V.length 5 (some (.cells 70 (V.flatMap clC))) = some (clsD V, [ub]) := by
      intro H
      have hle : 0 + V.length * 5 ≤ (V.flatMap clC).length ∧ 0 < 5 := by rw [length_flatMap (sz := 5) clC (fun _ => rfl)]; omega
      have htk : ((V.flatMap clC).drop 0).take (V.length * 5) = V.flatMap clC := List.take_of_length_le (by rw [List.drop_zero, length_flatMap (sz := 5) clC (fun _ => rfl)]; omega)
      rw [frzS_cells, if_pos hle, htk, each_canon H 22 _ (canonL_flatMap clC (fun c => by simp [clC]) V)]
      simp only [Option.map_some]
      rw [chunk_flatMap clC (by omega) (fun _ => rfl) V _ rfl]
      rfl
    obtain ⟨H2, hH2⟩ : ∃ H2, H2 = thaw [ub] (.sl false ((marksF V).map D.int)) (h.bump 81) := ⟨_, rfl⟩
    have hH2n : H2.next = h.next + 81 := by rw [hH2]; unfold thaw; split <;> simp
    have hH2r : ∀ j, j ≠ ub → H2.raw j = h.raw j := by intro j hj; rw [hH2]; unfold thaw; split <;> simp [hj]
    have hH2f : H2.Fr := by intro j hj; rw [hH2r j (by omega)]; exact hf j (by omega)
    have hD : ∀ e : List D, atId (e.getD 5 .junk) = some ub → dZ (rc pg m) 99 h.next e [HK.at 5] [HK.fr 36, HK.fr 8] (h.bump 81) (some (clsD V, [ub])) = some (.sl false ((marksF V).map D.int), H2) := by
      intro e he
      rw [dZ_some c36, dZ2_ret, hH2]
      unfold mayKill
      rw [hids_at e 5 ub [] he]
      simp [n1]
    have hfr2 : ∀ j, H2.raw (h.next + j) = none := fun j => by rw [hH2r _ (by omega)]; exact hf _ (by omega)
    have h00 : (0 : Int) ≤ 2 * (V.length : Int) := by omega
    have htn : (2 * (V.length : Int)).toNat = 2 * V.length := by omega
    have n2 : ∀ j, (h.next + j = ub) = False := fun j => by simp; omega
    simp only [clsD] at hfz hD
    simp [v0, v5, w1, dcore_y, s36, hroom2, hz1, n1, hu, hfz, hD, hH2n, hfr2, h00, htn, n2, D.cells, D.one, Nat.add_assoc, ev_loop]
    have hin : ∀ i c, l[i]? = some c → U i = true → c.a ∈ marksF V ∧ c.b ∈ marksF V ∧ -100000 ≤ c.lo ∧ c.lo ≤ 100000 := fun i c hc hU => by
      have hcm : c ∈ V := by rw [hVd]; exact uF_at (i := 0) hc (by rw [Nat.zero_add]; exact hU)
      have := ok_years (hl2 c (List.mem_of_getElem? hc))
      exact ⟨(marks_mem V c.a).2 ⟨c, hcm, .inl rfl⟩, (marks_mem V c.b).2 ⟨c, hcm, .inr rfl⟩, by omega, by omega⟩
    obtain ⟨MV, hMV⟩ : ∃ MV, MV = muF (marksF V) U 0 l := ⟨_, rfl⟩
    have hMVl : MV.length = 2 * V.length := by rw [hMV, muF_len, ← hVd]
    have hmc : ∀ (H : Heap) (mb : Nat), frzS H 22 mb 0 (2 * V.length) 5 (some (.cells 148 (MV.flatMap moC))) = some (mosD MV, [mb]) := by
      intro H mb
      have hle : 0 + 2 * V.length * 5 ≤ (MV.flatMap moC).length ∧ 0 < 5 := by rw [length_flatMap (sz := 5) moC (fun _ => rfl), hMVl]; omega
      have htk : ((MV.flatMap moC).drop 0).take (2 * V.length * 5) = MV.flatMap moC := List.take_of_length_le (by rw [List.drop_zero, length_flatMap (sz := 5) moC (fun _ => rfl), hMVl]; omega)
      rw [frzS_cells, if_pos hle, htk, each_canon H 21 _ (canonL_flatMap moC (fun c => by simp [moC]) _)]
      simp only [Option.map_some]
      rw [chunk_flatMap moC (by omega) (fun _ => rfl) MV _ hMVl.symm]
      rfl
    refine Res.endsAfter (lp_rule N0 (G1u (marksF V) l U (uF U 0 l).length (.fn (.func F) [] caps)) _ (movesu_round (marksF V) (marks_rise V) hml l hl1 U hin F caps hF hcc N0 hN hV) l.length m _ (by omega) ⟨_, _, 0, h.next + 8, h.next + 36, rb, rfl, by omega, by simp [v1], by simp [clsD], by simp, by simp, by simp, by simp [v4], by simp [intsD, uF, hVd], by simp [muF], ?_, by simp; omega, by simp; omega, by simp; omega, by omega, by omega, by omega, ?_⟩) ?_
    · have : H2.get rb = h.get rb := by unfold Heap.get; rw [hH2r rb (Ne.symm hne)]
      simp [show rb ≠ h.next + 8 by omega, show rb ≠ h.next + 36 by omega, this, hr]
    · repeat' first | exact hH2f | apply Heap.Fr.bump | apply Heap.Fr.set
      all_goals first | omega | (simp <;> omega)
    · rintro x s ⟨rfl, x, h', i, gb, mb, rb, rfl, hi, v1, v38, v39, v40, v8, v4, hg, hm, hr, gn, mn, rn, d1, d2, d3, hf'⟩
      have hil : i = l.length := by omega
      subst hil
      rw [List.take_length] at hm hg
      rw [← hMV] at hm
      rw [← hVd] at hg
      rw [← hVd, ← hMV]
      have q1 : (mb = rb) = False := by simp [d3]
      simp only [intsD] at hg
      simp only [mosD] at hmc
      have hcan := ints_canonL (marksF V)
      simp [v8, v4, hg, hr, nil2, D.cells, D.one, q1, hm, hmc, grD, intsD, mosD]
end Go.Proofs.YtgbkdjlekfjkfaaGreatDoor
