/- The chain of the least bound: what a search from mark to mark gives; where it leads, and what it shows: mathematics. -/
import Derived.Test.YtfemldhlanoakaaDoorPl
import Derived.Test.YtfemldhlanoakaaDoorTz
import Derived.Test.YtfemldhlanoakaaDoorEmNet
import Derived.Test.YtfemldhlanoakaaDoorPl
namespace Go.Proofs.YtfemldhlanoakaaDoor
open Go Go.Em Go.Em.Net
def mvO (m : Mo) : Mv := (m.fr, m.to_, m.mo)
def nxt (ld : Mv → Bool) (f : Nat → Int) (a : Nat) (m : Mo) : Bool := (m.fr == a) && (f m.to_ == f a - 1) && ld (mvO m)
def chF (L : List Mo) (ld : Mv → Bool) (f : Nat → Int) : Nat → Nat → List Mo
  | 0, _ => []
  | k + 1, a => match L.find? (nxt ld f a) with
    | some m => m :: chF L ld f k m.to_
    | none => []
def Pa : Nat → List Mo → Nat → Prop
  | a, [], b => a = b
  | a, m :: c, b => m.fr = a ∧ Pa m.to_ c b
def smF : List Mo → Int
  | [] => 0
  | m :: c => m.mo + smF c
theorem ch_ok {N : Mx} {L : List Mo} {b : Nat} {ld : Mv → Bool} {f : Nat → Int} (hbb : N b b = some 0) (hld : ∀ m ∈ mvs L, N m.2.1 b ≠ none → (ld m = true ↔ Tight N b m)) (hval : ∀ v, f v ≠ -1 → ∃ k : Nat, f v = k ∧ Least N (mvs L) b v k) : ∀ (k a : Nat) (p : Int), Least N (mvs L) b a k → f a = k → (∀ v i, Least N (mvs L) b v i → i < k → f v = i) → N a b = some p →
    (chF L ld f k a).length = k ∧ (∀ m ∈ chF L ld f k a, m ∈ L) ∧ Pa a (chF L ld f k a) b ∧ smF (chF L ld f k a) = p
  | 0, a, p, hl, _, _, hp => by
    have := hl.of_zero
    subst this
    rw [hbb] at hp
    exact ⟨rfl, fun m hm => (by cases hm), rfl, Option.some.inj hp⟩
  | k + 1, a, p, hl, hfa, hn, hp => by
    obtain ⟨t, ht, hta, htt, htl⟩ := hl.move
    obtain ⟨m0, hm0, e0⟩ := List.mem_map.1 ht
    have hnx : nxt ld f a m0 = true := by
      have e1 : m0.fr = a := by rw [← hta, ← e0]
      have e2 : f m0.to_ = k := by
        have := hn t.2.1 k htl (by omega)
        rw [← e0] at this
        exact this
      have e3 : ld (mvO m0) = true := by
        have hs : mvO m0 = t := e0
        rw [hs]
        obtain ⟨_, q, _, hq, _⟩ := htt
        exact (hld t ht (by rw [hq]; simp)).2 ⟨_, q, ‹_›, hq, ‹_›⟩
      unfold nxt
      rw [e1, e2, hfa, e3]
      simp
    obtain ⟨m, hm⟩ : ∃ m, L.find? (nxt ld f a) = some m := by
      cases h : L.find? (nxt ld f a) with
      | some m => exact ⟨m, rfl⟩
      | none => exact absurd hnx (by simpa using List.find?_eq_none.1 h m0 hm0)
    have hmL := List.mem_of_find?_eq_some hm
    have hmn := List.find?_some hm
    unfold nxt at hmn
    simp only [Bool.and_eq_true, beq_iff_eq] at hmn
    obtain ⟨⟨c1, c2⟩, c3⟩ := hmn
    have c2' : f m.to_ = k := by rw [c2, hfa]; omega
    obtain ⟨j, hj1, hj2⟩ := hval m.to_ (by omega)
    have hjk : j = k := by omega
    subst hjk
    have hmv : mvO m ∈ mvs L := List.mem_map.2 ⟨m, hmL, rfl⟩
    have hbb' : N b b ≠ none := by rw [hbb]; simp
    obtain ⟨x, q, hx, hq, hxq⟩ := (hld (mvO m) hmv (lw_some hbb' hj2.1)).1 c3
    have hx' : N a b = some x := by rw [← c1]; exact hx
    rw [hp] at hx'
    have hpx := Option.some.inj hx'
    obtain ⟨i1, i2, i3, i4⟩ := ch_ok hbb hld hval j m.to_ q hj2 c2' (fun v i h1 h2 => hn v i h1 (by omega)) hq
    have e : chF L ld f (j + 1) a = m :: chF L ld f j m.to_ := by rw [chF, hm]
    rw [e]
    refine ⟨by simp [i1], fun y hy => ?_, ⟨c1, i3⟩, ?_⟩
    · rcases List.mem_cons.1 hy with h | h
      · subst h; exact hmL
      · exact i2 y h
    · show m.mo + smF (chF L ld f j m.to_) = p
      rw [i4, hpx]
      exact hxq.symm
/-! ### Where it leads -/
theorem movs_claim {M : List Int} : ∀ {l : List Clm} {i : Nat} {m : Mo}, m ∈ movsF M i l → ∃ (j : Nat) (c : Clm), l[j]? = some c ∧ m.cl = ((i + j : Nat) : Int) ∧ m.fr = placeF M (endA c m.bk) ∧ m.to_ = placeF M (endB c m.bk) ∧ m.mo = endN c m.bk
  | [], _, _, h => by simp [movsF] at h
  | c :: l, i, m, h => by
    rw [movsF] at h
    rcases List.mem_append.1 h with h | h
    · refine ⟨0, c, rfl, ?_⟩
      rcases (by simpa [movF] using h : m = _ ∨ m = _) with rfl | rfl
      · exact ⟨by simp, by simp [endA], by simp [endB], by simp [endN]⟩
      · exact ⟨by simp, by simp [endA], by simp [endB], by simp [endN]⟩
    · obtain ⟨j, c', h1, h2, h3⟩ := movs_claim h
      exact ⟨j + 1, c', by simpa using h1, by rw [h2]; omega, h3⟩
def stO (m : Mo) : Stp := ⟨m.cl, m.bk⟩
theorem end_mem {l : List Clm} {c : Clm} (hc : c ∈ l) (bk : Bool) : endA c bk ∈ marksF l ∧ endB c bk ∈ marksF l := by
  have h1 := (marks_mem l c.a).2 ⟨c, hc, .inl rfl⟩
  have h2 := (marks_mem l c.b).2 ⟨c, hc, .inr rfl⟩
  cases bk
  · exact ⟨h1, h2⟩
  · exact ⟨h2, h1⟩
end Go.Proofs.YtfemldhlanoakaaDoor
/- The chain of the least bound: does a move lead there; one round of the search, by the program. -/
namespace Go.Proofs.YtfemldhlanoakaaDoor
open Go Go.Em Go.Em.Net
set_option maxRecDepth 100000
def bwD (M : List Int) (A : Nat → Nat → Int) (a b : Nat) : D := .agg [intsD M, rowsD M.length A, D.int a, D.int b]
/-- Does a move lead to b with the least bound, as the program asks it? -/
def ldI (A : Nat → Nat → Int) (b : Nat) (m : Mv) : Bool := A m.1 b == m.2.2 + A m.2.1 b
set_option maxHeartbeats 8000000 in
theorem leads_run (M : List Int) (A : Nat → Nat → Int) (hA : ∀ a b, -1000000000000 ≤ A a b ∧ A a b ≤ 1000000000000) (a b : Nat) (hb : b < M.length) (m : Mo) (h1 : m.fr < M.length) (h2 : m.to_ < M.length) (h3 : -100000 ≤ m.mo ∧ m.mo ≤ 100000) {n : Nat} (hn : 1 ≤ n) : pureCall (rc pg n) 93 [bwD M A a b, moD m] = some (.ret (D.bool (ldI A b (mvO m)))) := by
  obtain ⟨k, rfl, e⟩ := body (pg := pg) (f := 93) (args := [bwD M A a b, moD m]) (show 0 < n by omega) rfl rfl
  rw [e]
  have y1 := fun a => yCs_len M.length a
  have e1 := fun h' => yCs_at (y := A m.fr) hb h'
  have e2 := fun h' => yCs_at (y := A m.to_) hb h'
  have i1 : m.fr + 1 ≤ M.length := h1
  have i2 : m.to_ + 1 ≤ M.length := h2
  have i3 : b + 1 ≤ M.length := hb
  have q1 := hA m.to_ b
  have w1 : IntKind.i64.wrap (m.mo + A m.to_ b) = m.mo + A m.to_ b := wrap_i64 (by omega) (by omega)
  simp [-beq_iff_eq, k93, Env.v_ini, bwD, intsD, rowsD, moD, moC, D.cells, D.one, h1, h2, hb, y1, e1, e2, i1, i2, i3, w1, ldI, mvO]
/-- The search under way. -/
def St0 (M : List Int) (A : Nat → Nat → Int) (L : List Mo) (a b s : Nat) (f0 : Nat → Int) (lb : Nat) (h0 : Heap) (k : Nat) (st : St) : Prop := ∃ (x : Env 69) (h : Heap) (i : Nat), st = ⟨x.l, h, []⟩ ∧ i + k = L.length ∧ x.v 1 = mosD L ∧ x.v 2 = .ptr 2 0 ∧ x.v 5 = .slr lb 0 M.length 1 (some M.length) ∧ x.v 6 = D.int s ∧ x.v 24 = D.int M.length ∧ x.v 25 = D.int s ∧ x.v 28 = mosD L ∧ x.v 29 = D.int L.length ∧ x.v 30 = D.int i ∧ h.get 2 = some (.cells 76 [intsD M, rowsD M.length A, D.int a, D.int b]) ∧ h.get lb = some (.cells 3 (yCs M.length (((L.take i).map mvO).foldl (bfs1 (ldI A b) a s) f0))) ∧ lb < h.next ∧ 2 < h.next ∧ lb ≠ 2 ∧ h.Fr
theorem bfs_stop {ld : Mv → Bool} {a s : Nat} {f : Nat → Int} (h : f a ≠ -1) : ∀ l : List Mv, l.foldl (bfs1 ld a s) f = f
  | [] => rfl
  | m :: l => by
    rw [List.foldl_cons]
    have : bfs1 ld a s f m = f := by unfold bfs1; rw [if_pos h]
    rw [this]
    exact bfs_stop h l
/-- The round ends before its time: the beginning is found. -/
def StX (M : List Int) (A : Nat → Nat → Int) (L : List Mo) (a b s : Nat) (f0 : Nat → Int) (lb : Nat) (st : St) : Prop := ∃ (x : Env 69) (h : Heap), st = ⟨x.l, h, []⟩ ∧ x.v 5 = .slr lb 0 M.length 1 (some M.length) ∧ h.get lb = some (.cells 3 (yCs M.length (bfsR (ldI A b) a (L.map mvO) s f0))) ∧ lb < h.next ∧ h.Fr ∧ bfsR (ldI A b) a (L.map mvO) s f0 a ≠ -1
set_option maxHeartbeats 8000000 in
theorem st_round (M : List Int) (hM : M.length ≤ 64) (A : Nat → Nat → Int) (hA : ∀ a b, -1000000000000 ≤ A a b ∧ A a b ≤ 1000000000000) (L : List Mo) (hLl : L.length ≤ 800) (hL : ∀ m ∈ L, m.fr < M.length ∧ m.to_ < M.length ∧ -100000 ≤ m.mo ∧ m.mo ≤ 100000) (a b s : Nat) (ha : a < M.length) (hb : b < M.length) (hs : s < M.length) (f0 : Nat → Int) (lb : Nat) (h0 : Heap) :
    ∀ n, 5 ≤ n → ∀ k st, St0 M A L a b s f0 lb h0 k st → Res (k90l0.ev ⟨pg, 69, none⟩ (rc pg n) st) (Rnd (St0 M A L a b s f0 lb h0) (fun x st => (x = .exit 2 ∧ St0 M A L a b s f0 lb h0 0 st) ∨ (x = .exit 0 ∧ StX M A L a b s f0 lb st)) k) := by
  rintro n hn k st ⟨x, h, i, rfl, hik, v1, v2, v5, v6, v24, v25, v28, v29, v30, g2, gl, nl', n2', hne, hf⟩
  simp only [mosD] at v1 v28
  by_cases hi : i < L.length
  · obtain ⟨m, hm⟩ : ∃ m, L[i] = m := ⟨_, rfl⟩
    obtain ⟨m1, m2, m3, m4⟩ := hL m (by rw [← hm]; exact List.getElem_mem hi)
    obtain ⟨F, hF⟩ : ∃ F, F = ((L.take i).map mvO).foldl (bfs1 (ldI A b) a s) f0 := ⟨_, rfl⟩
    rw [← hF] at gl
    have hFn : ((L.take (i + 1)).map mvO).foldl (bfs1 (ldI A b) a s) f0 = bfs1 (ldI A b) a s F (mvO m) := by
      rw [List.take_add_one, List.getElem?_eq_getElem hi, hm, List.map_append, List.foldl_append, ← hF]; rfl
    have hall : bfsR (ldI A b) a (L.map mvO) s f0 = ((L.drop i).map mvO).foldl (bfs1 (ldI A b) a s) F := by
      unfold bfsR
      rw [← List.take_append_drop i L, List.map_append, List.foldl_append, List.take_append_drop, ← hF]
    have w1 : IntKind.i64.wrap ((i : Int) + 1) = (i : Int) + 1 := wrap_i64 (by omega) (by omega)
    have w2 : IntKind.i64.wrap ((s : Int) + 1) = (s : Int) + 1 := wrap_i64 (by omega) (by omega)
    have hfr : ∀ j, h.raw (h.next + j) = none := fun j => hf _ (by omega)
    have nl : ∀ j, (lb = h.next + j) = False := fun j => by simp; omega
    have nl2 : (lb = 2) = False := by simp [hne]
    have nl2' : (2 = lb) = False := by simp; omega
    have n2' : ∀ j, (2 = h.next + j) = False := fun j => by simp; omega
    have hz5 : zerosD [.int .i64 0, .bool false, .int .i64 0, .int .i64 0, .int .i64 0] 5 1 = [D.int 0, D.bool false, D.int 0, D.int 0, D.int 0] := rfl
    have y1 := yCs_len M.length F
    have e1 := fun h' => yCs_at (y := F) ha h'
    have e2 := fun h' => yCs_at (y := F) m2 h'
    have e3 := fun h' => yCs_at (y := F) m1 h'
    have i1 : a + 1 ≤ M.length := ha
    have i2 : m.to_ + 1 ≤ M.length := m2
    have i3 : m.fr + 1 ≤ M.length := m1
    have hc1 := ints_canonL M
    have hc2 := rows_canonL M.length A
    have c110 := fun h => call_of (h := h) (pg := pg) (f := 93) rfl (by simp [bwD, moD, moC, intsD, rowsD, hc1, hc2]) (leads_run M A hA a b hb m m1 m2 ⟨m3, m4⟩ (n := n) (by omega))
    simp only [bwD, moD, moC, intsD, rowsD] at c110 g2
    by_cases hfa : F a = -1
    · have hfa' : (F a != -1) = false := by simp [hfa]
      by_cases c1 : F m.to_ = s
      · have c1' : (F m.to_ == (s : Int)) = true := by simp [c1]
        by_cases c2 : F m.fr = -1
        · have c2' : (F m.fr == -1) = true := by simp [c2]
          cases c3 : ldI A b (mvO m) with
          | true =>
            rw [c3] at c110
            have hbf : bfs1 (ldI A b) a s F (mvO m) = fun v => if v = m.fr then (s : Int) + 1 else F v := by
              unfold bfs1; rw [if_neg (by simp [hfa]), if_pos ⟨c1, c2, c3⟩]; rfl
            have hst : (yCs M.length F).take m.fr ++ D.int ((s : Int) + 1) :: (yCs M.length F).drop (m.fr + 1) = yCs M.length (fun v => if v = m.fr then (s : Int) + 1 else F v) := by
              rw [← yCs_set, List.set_eq_take_append_cons_drop, if_pos (by rw [y1]; exact m1)]
            simp [-beq_iff_eq, -bne_iff_ne, -beq_eq_false_iff_ne, -bne_eq_false_iff_eq, k90l0, v1, v2, v5, v6, v24, v25, v28, v29, v30, hi, hm, moD, moC, D.cells, D.one, hfr, hz5, Nat.add_assoc, g2, gl, nl, nl2, nl2', n2', y1, e1, e2, e3, i1, i2, i3, ha, m1, m2, hfa', c1', c2', c110, w1, w2, hst]
            refine ⟨k - 1, by omega, _, _, i + 1, rfl, by omega, by simp [v1, mosD], by simp [v2], by simp [v5], by simp [v6], by simp [v24], by simp [v25], by simp [v28, mosD], by simp [v29], by simp, by simp [g2, n2', nl2, nl2', intsD, rowsD], ?_, by first | (simp; done) | (simp; omega), by first | (simp; done) | (simp; omega), hne, ?_⟩
            · rw [hFn]; simp [hbf, gl, nl, nl2, nl2']
            · repeat' first | exact hf | apply Heap.Fr.bump | apply Heap.Fr.set
              all_goals first | omega | (simp <;> omega)
          | false =>
            rw [c3] at c110
            have hbf : bfs1 (ldI A b) a s F (mvO m) = F := by unfold bfs1; rw [if_neg (by simp [hfa]), if_neg (by simp [c3])]
            simp [-beq_iff_eq, -bne_iff_ne, -beq_eq_false_iff_ne, -bne_eq_false_iff_eq, k90l0, v1, v2, v5, v6, v24, v25, v28, v29, v30, hi, hm, moD, moC, D.cells, D.one, hfr, hz5, Nat.add_assoc, g2, gl, nl, nl2, nl2', n2', y1, e1, e2, e3, i1, i2, i3, ha, m1, m2, hfa', c1', c2', c110, w1, w2]
            refine ⟨k - 1, by omega, _, _, i + 1, rfl, by omega, by simp [v1, mosD], by simp [v2], by simp [v5], by simp [v6], by simp [v24], by simp [v25], by simp [v28, mosD], by simp [v29], by simp, by simp [g2, n2', nl2, nl2', intsD, rowsD], ?_, by first | (simp; done) | (simp; omega), by first | (simp; done) | (simp; omega), hne, ?_⟩
            · rw [hFn]; simp [hbf, gl, nl, nl2, nl2']
            · repeat' first | exact hf | apply Heap.Fr.bump | apply Heap.Fr.set
              all_goals first | omega | (simp <;> omega)
        · have c2' : (F m.fr == -1) = false := by simp [c2]
          have hbf : bfs1 (ldI A b) a s F (mvO m) = F := by unfold bfs1; rw [if_neg (by simp [hfa]), if_neg (fun e => c2 e.2.1)]
          simp [-beq_iff_eq, -bne_iff_ne, -beq_eq_false_iff_ne, -bne_eq_false_iff_eq, k90l0, v1, v2, v5, v6, v24, v25, v28, v29, v30, hi, hm, moD, moC, D.cells, D.one, hfr, hz5, Nat.add_assoc, g2, gl, nl, nl2, nl2', n2', y1, e1, e2, e3, i1, i2, i3, ha, m1, m2, hfa', c1', c2', w1, w2]
          refine ⟨k - 1, by omega, _, _, i + 1, rfl, by omega, by simp [v1, mosD], by simp [v2], by simp [v5], by simp [v6], by simp [v24], by simp [v25], by simp [v28, mosD], by simp [v29], by simp, by simp [g2, n2', nl2, nl2', intsD, rowsD], ?_, by first | (simp; done) | (simp; omega), by first | (simp; done) | (simp; omega), hne, ?_⟩
          · rw [hFn]; simp [hbf, gl, nl, nl2, nl2']
          · repeat' first | exact hf | apply Heap.Fr.bump | apply Heap.Fr.set
            all_goals first | omega | (simp <;> omega)
      · have c1' : (F m.to_ == (s : Int)) = false := by simp [c1]
        have hbf : bfs1 (ldI A b) a s F (mvO m) = F := by unfold bfs1; rw [if_neg (by simp [hfa]), if_neg (fun e => c1 e.1)]
        simp [-beq_iff_eq, -bne_iff_ne, -beq_eq_false_iff_ne, -bne_eq_false_iff_eq, k90l0, v1, v2, v5, v6, v24, v25, v28, v29, v30, hi, hm, moD, moC, D.cells, D.one, hfr, hz5, Nat.add_assoc, g2, gl, nl, nl2, nl2', n2', y1, e1, e2, e3, i1, i2, i3, ha, m1, m2, hfa', c1', w1, w2]
        refine ⟨k - 1, by omega, _, _, i + 1, rfl, by omega, by simp [v1, mosD], by simp [v2], by simp [v5], by simp [v6], by simp [v24], by simp [v25], by simp [v28, mosD], by simp [v29], by simp, by simp [g2, n2', nl2, nl2', intsD, rowsD], ?_, by first | (simp; done) | (simp; omega), by first | (simp; done) | (simp; omega), hne, ?_⟩
        · rw [hFn]; simp [hbf, gl, nl, nl2, nl2']
        · repeat' first | exact hf | apply Heap.Fr.bump | apply Heap.Fr.set
          all_goals first | omega | (simp <;> omega)
    · have hfa' : (F a != -1) = true := by simpa using hfa
      have hend : bfsR (ldI A b) a (L.map mvO) s f0 = F := by rw [hall]; exact bfs_stop hfa _
      simp [-beq_iff_eq, -bne_iff_ne, -beq_eq_false_iff_ne, -bne_eq_false_iff_eq, k90l0, v1, v2, v5, v6, v24, v25, v28, v29, v30, hi, hm, moD, moC, D.cells, D.one, hfr, hz5, Nat.add_assoc, g2, gl, nl, nl2, nl2', n2', y1, e1, e2, e3, i1, i2, i3, ha, m1, m2, hfa', w1, w2]
      refine ⟨_, _, rfl, by simp [v5], by rw [hend]; simp [gl, nl, nl2], by first | (simp; done) | (simp; omega), ?_, by rw [hend]; exact hfa⟩
      repeat' first | exact hf | apply Heap.Fr.bump | apply Heap.Fr.set
      all_goals first | omega | (simp <;> omega)
  · simp [k90l0, v29, v30, hi]
    exact ⟨_, _, i, rfl, by omega, by simp [v1, mosD], by simp [v2], by simp [v5], by simp [v6], by simp [v24], by simp [v25], by simp [v28, mosD], by simp [v29], by simp [v30], by simp [g2], by simp [gl], by first | (simp; done) | (simp; omega), by first | (simp; done) | (simp; omega), hne, hf.bump _⟩
end Go.Proofs.YtfemldhlanoakaaDoor
/- The chain of the least bound: how many steps are left, by the program. -/
namespace Go.Proofs.YtfemldhlanoakaaDoor
open Go Go.Em Go.Em.Net
set_option maxRecDepth 100000
theorem bfsN_stop {ld : Mv → Bool} {a b : Nat} {mv : List Mv} {s : Nat} (h : bfsN ld a b mv s a ≠ -1) : ∀ t, bfsN ld a b mv (s + t) = bfsN ld a b mv s
  | 0 => rfl
  | t + 1 => by
    show bfsR ld a mv (s + t) (bfsN ld a b mv (s + t)) = _
    rw [bfsN_stop h t]
    exact bfs_stop h mv
theorem Res.in5 {L : Option (Ex × St)} {i1 i2 : Nat} {F : St → Option (Ex × St)} {P Q : Ex → St → Prop} (h : Res L P) (hk : ∀ x s, P x s → Res (andThen (blockK i1 (blockK i2 (some (x, s)))) F) Q) : Res (andThen (blockK i1 (blockK i2 L)) F) Q := by
  obtain ⟨x, s, rfl, p⟩ := h; exact hk x s p
def St1 (M : List Int) (A : Nat → Nat → Int) (L : List Mo) (a b : Nat) (lb : Nat) (k : Nat) (st : St) : Prop := ∃ (x : Env 69) (h : Heap) (s : Nat), st = ⟨x.l, h, []⟩ ∧ s + k = M.length ∧ x.v 1 = mosD L ∧ x.v 2 = .ptr 2 0 ∧ x.v 5 = .slr lb 0 M.length 1 (some M.length) ∧ x.v 24 = D.int M.length ∧ x.v 25 = D.int s ∧ h.get 2 = some (.cells 76 [intsD M, rowsD M.length A, D.int a, D.int b]) ∧ h.get lb = some (.cells 3 (yCs M.length (bfsN (ldI A b) a b (L.map mvO) s))) ∧ lb < h.next ∧ 2 < h.next ∧ lb ≠ 2 ∧ h.Fr
def StF (M : List Int) (A : Nat → Nat → Int) (L : List Mo) (a b : Nat) (lb : Nat) (st : St) : Prop := ∃ (x : Env 69) (h : Heap), st = ⟨x.l, h, []⟩ ∧ x.v 5 = .slr lb 0 M.length 1 (some M.length) ∧ h.get lb = some (.cells 3 (yCs M.length (bfsN (ldI A b) a b (L.map mvO) M.length))) ∧ lb < h.next ∧ h.Fr
set_option maxHeartbeats 8000000 in
theorem st_rounds (M : List Int) (hM : M.length ≤ 64) (A : Nat → Nat → Int) (hA : ∀ a b, -1000000000000 ≤ A a b ∧ A a b ≤ 1000000000000) (L : List Mo) (hLl : L.length ≤ 800) (hL : ∀ m ∈ L, m.fr < M.length ∧ m.to_ < M.length ∧ -100000 ≤ m.mo ∧ m.mo ≤ 100000) (a b : Nat) (ha : a < M.length) (hb : b < M.length) (lb : Nat) :
    ∀ n, 900 ≤ n → ∀ k st, St1 M A L a b lb k st → Res (k90l1.ev ⟨pg, 69, none⟩ (rc pg n) st) (Rnd (St1 M A L a b lb) (fun x st => x = .exit 0 ∧ StF M A L a b lb st) k) := by
  rintro n hn k st ⟨x, h, s, rfl, hsk, v1, v2, v5, v24, v25, g2, gl, nl, n2, hne, hf⟩
  by_cases hs : s < M.length
  · have w1 : IntKind.i64.wrap ((s : Int) + 1) = (s : Int) + 1 := wrap_i64 (by omega) (by omega)
    have v1' := v1
    simp only [mosD] at v1'
    simp [k90l1, v1', v2, v5, v24, v25, hs, ev_loop]
    refine Res.in5 (lp_rule 5 (St0 M A L a b s (bfsN (ldI A b) a b (L.map mvO) s) lb h) _ (st_round M hM A hA L hLl hL a b s ha hb hs _ lb h) L.length n _ (by omega) ⟨_, _, 0, rfl, by omega, by simp [v1], by simp [v2], by simp [v5], by simp, by simp [v24], by simp [v25], by simp [mosD], by simp, by simp, by simp [g2], by simpa using gl, by first | (simp; done) | (simp; omega), by first | (simp; done) | (simp; omega), hne, ((hf.bump _).bump _).bump _⟩) ?_
    rintro xo so (⟨rfl, x', h', i, rfl, hi, w1', w2', w5, w6, w24, w25, w28, w29, w30, g2', gl', nl', n2', _, hf'⟩ | ⟨rfl, x', h', rfl, w5, gl', nl', hf', hne'⟩)
    · have hil : i = L.length := by omega
      subst hil
      rw [List.take_length] at gl'
      simp [w24, w25, w1]
      exact ⟨k - 1, by omega, _, _, s + 1, rfl, by omega, by simp [w1'], by simp [w2'], by simp [w5], by simp [w24], by simp, by simp [g2'], by simpa [bfsN, bfsR] using gl', by first | (simp; done) | (simp; omega), by first | (simp; done) | (simp; omega), hne, hf'.bump _⟩
    · simp
      have e1 : bfsN (ldI A b) a b (L.map mvO) (s + 1) a ≠ -1 := hne'
      have e2 := bfsN_stop e1 (M.length - (s + 1))
      rw [show s + 1 + (M.length - (s + 1)) = M.length by omega] at e2
      exact ⟨x', h', rfl, w5, by rw [e2]; exact gl', nl', hf'⟩
  · have hsM : s = M.length := by omega
    simp [k90l1, v24, v25, hs]
    exact ⟨_, _, rfl, by simp [v5], by rw [← hsM]; simpa [hsM] using gl, by simp; omega, hf.bump _⟩
set_option maxHeartbeats 8000000 in
theorem left_run (M : List Int) (hM : M.length ≤ 64) (A : Nat → Nat → Int) (hA : ∀ a b, -1000000000000 ≤ A a b ∧ A a b ≤ 1000000000000) (L : List Mo) (hLl : L.length ≤ 800) (hL : ∀ m ∈ L, m.fr < M.length ∧ m.to_ < M.length ∧ -100000 ≤ m.mo ∧ m.mo ≤ 100000) (a b : Nat) (ha : a < M.length) (hb : b < M.length) {n : Nat} (hn : 2000 ≤ n) :
    pureCall (rc pg n) 90 [bwD M A a b, mosD L] = some (.ret (.sl false (yCs M.length (bfsN (ldI A b) a b (L.map mvO) M.length)))) := by
  obtain ⟨m, rfl, e⟩ := body (pg := pg) (f := 90) (args := [bwD M A a b, mosD L]) (show 0 < n by omega) rfl rfl
  rw [e]
  have s119 : pg.sh 115 = true := rfl
  have hz1 : zerosD [.int .i64 0] 1 1 = [D.int 0] := rfl
  obtain ⟨H, hH⟩ : ∃ H : Heap, H = ((((Heap.empty.bump 69).set 2 (some (.cells 76 [intsD M, rowsD M.length A, D.int a, D.int b]))).bump 69).set 78 (some (.cells 3 [D.int (-1)]))).set 78 none := ⟨_, rfl⟩
  have hHf : H.Fr := by
    rw [hH]
    repeat' first | exact Heap.Fr.empty | apply Heap.Fr.bump | apply Heap.Fr.set
    all_goals first | omega | (simp <;> omega)
  have hHn : H.next = 138 := by rw [hH]; simp
  have hH2 : H.get 2 = some (.cells 76 [intsD M, rowsD M.length A, D.int a, D.int b]) := by rw [hH]; simp
  obtain ⟨lb, h1, er, g1, q1, f1, q0, u1, u2⟩ := rep_sh (-1) hM (by omega) hHf (f := m) (by omega)
  have c119 := call_sh (pg := pg) s119 er
  have h1g : h1.get 2 = some (.cells 76 [intsD M, rowsD M.length A, D.int a, D.int b]) := by unfold Heap.get; rw [u2 2 (by omega)]; exact hH2
  obtain ⟨R, hR⟩ : ∃ R, R = (List.replicate M.length (-1 : Int)).map D.int := ⟨_, rfl⟩
  rw [← hR] at g1
  have hRl : R.length = M.length := by rw [hR]; simp
  have hRs : R.take b ++ D.int 0 :: R.drop (b + 1) = yCs M.length (bfsN (ldI A b) a b (L.map mvO) 0) := by
    have e0 : R = yCs M.length (fun _ => -1) := by
      rw [hR]; unfold yCs
      rw [List.map_replicate]
      symm
      refine List.eq_replicate_iff.2 ⟨by simp, fun d hd => ?_⟩
      obtain ⟨_, _, rfl⟩ := List.mem_map.1 hd
      rfl
    have e1 : bfsN (ldI A b) a b (L.map mvO) 0 = fun v => if v = b then 0 else -1 := rfl
    rw [e0, e1, ← yCs_set, List.set_eq_take_append_cons_drop, if_pos (by rw [yCs_len]; exact hb)]
  have b1 : b + 1 ≤ M.length := hb
  have nl2 : (lb = 2) = False := by simp; omega
  have nl2' : (2 = lb) = False := by simp; omega
  simp only [intsD, rowsD] at hH h1g hH2
  simp [k90, Env.v_ini, bwD, mosD, intsD, rowsD, D.cells, D.one, hz1, chunk, ← hH, hH2, c119, h1g, g1, hRl, hRs, hb, b1, nl2, nl2', ev_loop]
  refine Res.endsAfter (lp_rule 900 (St1 M A L a b lb) _ (st_rounds M hM A hA L hLl hL a b ha hb lb) M.length m _ (by omega) ⟨_, _, 0, rfl, by omega, by simp [Env.v_ini, mosD], by simp, by simp, by simp, by simp, by simp [nl2, nl2', h1g, intsD, rowsD], by simp, by first | (simp; done) | (simp; omega), by first | (simp; done) | (simp; omega), by omega, ?_⟩) ?_
  · repeat' first | exact f1 | apply Heap.Fr.bump | apply Heap.Fr.set
    all_goals first | omega | (simp <;> omega)
  · rintro xo so ⟨rfl, x', h', rfl, w5, gl, nl, hf'⟩
    have hz := frz_row (d := 22) (h := h'.bump 69) (n := M.length) (k := lb) (y := bfsN (ldI A b) a b (L.map mvO) M.length) (by simpa using gl)
    simp only [rowS, frz_slr, Nat.reduceAdd, Heap.get_bump] at hz
    simp [w5, hz]
end Go.Proofs.YtfemldhlanoakaaDoor
/- The chain of the least bound: the next move, by the program. -/
namespace Go.Proofs.YtfemldhlanoakaaDoor
open Go Go.Em Go.Em.Net
set_option maxRecDepth 100000
def capD (M : List Int) (A : Nat → Nat → Int) (a b : Nat) (f : Nat → Int) (at_ : Nat) : List D := [.eref [D.int at_], .eref [.sl false (yCs M.length f)], .eref [intsD M, rowsD M.length A, D.int a, D.int b]]
set_option maxHeartbeats 8000000 in
theorem nxt_run (M : List Int) (A : Nat → Nat → Int) (hA : ∀ a b, -1000000000000 ≤ A a b ∧ A a b ≤ 1000000000000) (a b : Nat) (hb : b < M.length) (f : Nat → Int) (hf : ∀ v, v < M.length → -1000 ≤ f v ∧ f v ≤ 1000) (at_ : Nat) (hat : at_ < M.length) (m : Mo) (h1 : m.fr < M.length) (h2 : m.to_ < M.length) (h3 : -100000 ≤ m.mo ∧ m.mo ≤ 100000) {n : Nat} (hn : 2 ≤ n) :
    pureCall (rc pg n) 92 (moD m :: capD M A a b f at_) = some (.ret (D.bool (nxt (ldI A b) f at_ m))) := by
  obtain ⟨k, rfl, e⟩ := body (pg := pg) (f := 92) (args := moD m :: capD M A a b f at_) (show 0 < n by omega) rfl rfl
  rw [e]
  have y1 := yCs_len M.length f
  have e1 := fun h' => yCs_at (y := f) hat h'
  have e2 := fun h' => yCs_at (y := f) h2 h'
  have i1 : at_ + 1 ≤ M.length := hat
  have i2 : m.to_ + 1 ≤ M.length := h2
  have q1 := hf at_ hat
  have w1 : IntKind.i64.wrap (f at_ - 1) = f at_ - 1 := wrap_i64 (by omega) (by omega)
  have hc1 := ints_canonL M
  have hc2 := rows_canonL M.length A
  have s110 : pg.sh 93 = false := rfl
  have c110 := leads_run M A hA a b hb m h1 h2 h3 (n := k) (by omega)
  simp only [bwD, moD, moC, intsD, rowsD] at c110
  by_cases c1 : m.fr = at_
  · have c1' : ((m.fr : Int) == (at_ : Int)) = true := by simp [c1]
    cases c2 : (f m.to_ == f at_ - 1) with
    | true =>
      simp [-beq_iff_eq, -beq_eq_false_iff_ne, k92, Env.v_ini, capD, moD, moC, intsD, rowsD, D.cells, D.one, c1', c2, h2, hat, y1, e1, e2, i1, i2, w1, dcore_f, s110, c110, hc1, hc2]
      unfold nxt
      rw [c2]
      simp [c1]
    | false =>
      simp [-beq_iff_eq, -beq_eq_false_iff_ne, k92, Env.v_ini, capD, moD, moC, intsD, rowsD, D.cells, D.one, c1', c2, h2, hat, y1, e1, e2, i1, i2, w1, dcore_f, s110]
      unfold nxt
      rw [c2]
      simp
  · have c1' : ((m.fr : Int) == (at_ : Int)) = false := by simp; omega
    simp [-beq_iff_eq, -beq_eq_false_iff_ne, k92, Env.v_ini, capD, moD, moC, intsD, rowsD, D.cells, D.one, c1', h2, hat, y1, e1, e2, i1, i2, w1, dcore_f, s110]
    unfold nxt
    simp [c1]
def fnC (M : List Int) (A : Nat → Nat → Int) (a b : Nat) (f : Nat → Int) (at_ : Nat) : D := .fn (.func 92) [] (capD M A a b f at_)
def IM (P : Mo → Bool) (L : List Mo) (fd : D) (k : Nat) (s : St) : Prop := ∃ (x : Env 19) (h : Heap) (i : Nat), s = ⟨x.l, h, []⟩ ∧ i + k = L.length ∧ x.v 0 = mosD L ∧ x.v 1 = fd ∧ x.v 7 = D.int L.length ∧ x.v 8 = D.int i ∧ ixP P 0 L = ixP P i (L.drop i)
def IQ (P : Mo → Bool) (L : List Mo) (x : Ex) (s : St) : Prop :=
  (x = .exit 0 ∧ ixP P 0 L = -1 ∧ ∃ (x : Env 19) (h : Heap), s = ⟨x.l, h, []⟩) ∨ (x = .ret ∧ ∃ (x : Env 19) (h : Heap), s = ⟨x.l, h, []⟩ ∧ x.v 4 = D.int (ixP P 0 L))
set_option maxHeartbeats 8000000 in
theorem ixm_round (M : List Int) (A : Nat → Nat → Int) (hA : ∀ a b, -1000000000000 ≤ A a b ∧ A a b ≤ 1000000000000) (a b : Nat) (hb : b < M.length) (f : Nat → Int) (hf : ∀ v, v < M.length → -1000 ≤ f v ∧ f v ≤ 1000) (at_ : Nat) (hat : at_ < M.length) (L : List Mo) (hLl : L.length ≤ 800) (hL : ∀ m ∈ L, m.fr < M.length ∧ m.to_ < M.length ∧ -100000 ≤ m.mo ∧ m.mo ≤ 100000) :
    ∀ n, 5 ≤ n → ∀ k s, IM (nxt (ldI A b) f at_) L (fnC M A a b f at_) k s → Res (k91l0.ev ⟨pg, 19, none⟩ (rc pg n) s) (Rnd (IM (nxt (ldI A b) f at_) L (fnC M A a b f at_)) (IQ (nxt (ldI A b) f at_) L) k) := by
  rintro n hn k s ⟨x, h, i, rfl, hik, v0, v1, v7, v8, ho⟩
  simp only [mosD] at v0
  by_cases hi : i < L.length
  · obtain ⟨m, hm⟩ : ∃ m, L[i] = m := ⟨_, rfl⟩
    obtain ⟨m1, m2, m3, m4⟩ := hL m (by rw [← hm]; exact List.getElem_mem hi)
    have hd : L.drop i = m :: L.drop (i + 1) := by rw [List.drop_eq_getElem_cons hi, hm]
    rw [hd, ixP] at ho
    have w1 : IntKind.i64.wrap ((i : Int) + 1) = (i : Int) + 1 := wrap_i64 (by omega) (by omega)
    have hc1 := ints_canonL M
    have hc2 := rows_canonL M.length A
    have hc3 := yCs_canon M.length f
    have c109 := fun h => call_of (h := h) (pg := pg) (f := 92) (args := moD m :: capD M A a b f at_) rfl (by simp [moD, moC, capD, intsD, rowsD, hc1, hc2, hc3]) (nxt_run M A hA a b hb f hf at_ hat m m1 m2 ⟨m3, m4⟩ (n := n) (by omega))
    simp only [moD, moC, capD, intsD, rowsD] at c109
    simp only [fnC, capD, intsD, rowsD] at v1
    cases he : nxt (ldI A b) f at_ m with
    | true =>
      rw [if_pos he] at ho
      rw [he] at c109
      simp [k91l0, v0, v1, v7, v8, hi, hm, moD, moC, D.cells, D.one, c109]
      exact .inr ⟨rfl, _, _, rfl, by simp [ho]⟩
    | false =>
      rw [if_neg (by simp [he])] at ho
      rw [he] at c109
      simp [k91l0, v0, v1, v7, v8, hi, hm, moD, moC, D.cells, D.one, c109, w1]
      exact ⟨k - 1, by omega, _, _, i + 1, rfl, by omega, by simp [v0, mosD], by simp [v1, fnC, capD, intsD, rowsD], by simp [v7], by simp, ho⟩
  · simp [k91l0, v7, v8, hi]
    have hil : i = L.length := by omega
    rw [hil, List.drop_length] at ho
    exact .inl ⟨rfl, ho, _, _, rfl⟩
theorem ixm_run (M : List Int) (A : Nat → Nat → Int) (hA : ∀ a b, -1000000000000 ≤ A a b ∧ A a b ≤ 1000000000000) (a b : Nat) (hb : b < M.length) (f : Nat → Int) (hf : ∀ v, v < M.length → -1000 ≤ f v ∧ f v ≤ 1000) (at_ : Nat) (hat : at_ < M.length) (L : List Mo) (hLl : L.length ≤ 800) (hL : ∀ m ∈ L, m.fr < M.length ∧ m.to_ < M.length ∧ -100000 ≤ m.mo ∧ m.mo ≤ 100000) {n : Nat} (hn : 900 ≤ n) :
    pureCall (rc pg n) 91 [mosD L, fnC M A a b f at_] = some (.ret (D.int (ixP (nxt (ldI A b) f at_) 0 L))) := by
  obtain ⟨m, rfl, e⟩ := body (pg := pg) (f := 91) (args := [mosD L, fnC M A a b f at_]) (show 0 < n by omega) rfl rfl
  rw [e]
  simp [k91, Env.v_ini, mosD, ev_loop]
  refine Res.endsAfter (lp_rule 5 (IM (nxt (ldI A b) f at_) L (fnC M A a b f at_)) (IQ (nxt (ldI A b) f at_) L) (ixm_round M A hA a b hb f hf at_ hat L hLl hL) L.length m _ (by omega) ⟨_, _, 0, rfl, by omega, by simp [Env.v_ini, mosD], by simp [Env.v_ini], by simp, by simp, rfl⟩) ?_
  rintro x s (⟨rfl, ho, x, h, rfl⟩ | ⟨rfl, x, h, rfl, v4⟩)
  · simp [ho]
  · simp [v4]
end Go.Proofs.YtfemldhlanoakaaDoor
