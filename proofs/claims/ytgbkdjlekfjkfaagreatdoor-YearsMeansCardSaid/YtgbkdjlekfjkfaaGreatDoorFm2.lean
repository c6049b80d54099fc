/- Series: the mean, by the program and by the document. -/
import Derived.Test.YtgbkdjlekfjkfaaGreatDoorFm1
namespace Go.Proofs.YtgbkdjlekfjkfaaGreatDoor
open Go Go.Em
set_option maxRecDepth 100000
def OkS (l : List Int) : Prop := l.length ≤ 400 ∧ ∀ t ∈ l, 0 ≤ t ∧ t ≤ 200000
theorem ser_ok {l : List Int} (h : serF l = true) : OkS l ∧ 1 ≤ l.length := by
  unfold serF at h
  rw [Bool.and_eq_true] at h
  have h1 := h.1
  unfold inR at h1
  simp at h1
  have h2 : l.any outR = false := by simpa using h.2
  rw [List.any_eq_false] at h2
  refine ⟨⟨by omega, fun t ht => ?_⟩, by omega⟩
  have := h2 t ht
  unfold outR inR at this
  simpa using this
theorem sum_bd : ∀ {l : List Int}, (∀ t ∈ l, 0 ≤ t ∧ t ≤ 200000) → 0 ≤ l.sum ∧ l.sum ≤ 200000 * l.length
  | [], _ => by simp
  | a :: l, h => by
    have h1 := h a List.mem_cons_self
    have h2 := sum_bd fun t ht => h t (List.mem_cons_of_mem _ ht)
    rw [List.sum_cons, List.length_cons]
    omega
theorem OkS.part {l : List Int} (h : OkS l) (i w : Nat) : OkS ((l.drop i).take w) := by
  refine ⟨?_, fun t ht => h.2 t (List.mem_of_mem_drop (List.mem_of_mem_take ht))⟩
  have := h.1
  simp only [List.length_take, List.length_drop]
  omega
theorem take_sum {l : List Int} {i : Nat} (hi : i < l.length) : (l.take (i + 1)).sum = (l.take i).sum + l[i] := by
  rw [List.take_add_one, List.getElem?_eq_getElem hi, List.sum_append]
  show (l.take i).sum + [l[i]].sum = _
  rw [List.sum_cons, List.sum_nil, Int.add_zero]
theorem take_bd {l : List Int} (h : OkS l) (i : Nat) : 0 ≤ (l.take i).sum ∧ (l.take i).sum ≤ 80000000 := by
  have h1 := sum_bd fun t ht => h.2 t (List.mem_of_mem_take (i := i) ht)
  have h2 : (l.take i).length ≤ 400 := by have := h.1; simp only [List.length_take]; omega
  omega
theorem mk_ok {l : List Int} (h : OkS l) (h1 : 1 ≤ l.length) : mkO l.sum l.length = true := by
  have h2 := sum_bd h.2
  have h3 := h.1
  have a : inR l.sum (-1000000000) 1000000000 = true := by unfold inR; exact decide_eq_true (by omega)
  have b : inR l.length (-1000000000) 1000000000 = true := by unfold inR; exact decide_eq_true (by omega)
  have c : ((l.length : Int) != 0) = true := by rw [bne_iff_ne]; omega
  unfold mkO
  rw [a, b, c]; rfl
def menP (l : List Int) : D := mkP l.sum l.length
def MeI (l : List Int) (k : Nat) (s : St) : Prop := ∃ (x : Env 27) (h : Heap) (i : Nat), s = ⟨x.l, h, []⟩ ∧ i + k = l.length ∧ x.v 0 = intsD l ∧ x.v 2 = .ptr 2 0 ∧ x.v 4 = D.int (l.take i).sum ∧ x.v 11 = intsD l ∧ x.v 12 = D.int l.length ∧ x.v 13 = D.int i ∧ h.get 2 = some (.cells 48 [D.int 0, D.int 0])
theorem me_round (l : List Int) (hl : OkS l) : ∀ n, 1 ≤ n → ∀ k s, MeI l k s → Res (k31l0.ev ⟨pg, 27, none⟩ (rc pg n) s) (Rnd (MeI l) (fun x s => x = .exit 0 ∧ MeI l 0 s) k) := by
  rintro n hn k s ⟨x, h, i, rfl, hik, v0, v2, v4, v11, v12, v13, g2⟩
  have hl1 := hl.1
  simp only [intsD] at v11
  by_cases hi : i < l.length
  · obtain ⟨v, hv⟩ : ∃ v, l[i] = v := ⟨_, rfl⟩
    have hsum := take_sum hi
    rw [hv] at hsum
    have b1 := take_bd hl (i + 1)
    have w1 : IntKind.i64.wrap ((i : Int) + 1) = (i : Int) + 1 := wrap_i64 (by omega) (by omega)
    have w2 : IntKind.i64.wrap ((l.take i).sum + v) = (l.take i).sum + v := wrap_i64 (by omega) (by omega)
    simp [k31l0, v4, v11, v12, v13, hi, hv, D.cells, w1, w2]
    exact ⟨k - 1, by omega, _, _, i + 1, rfl, by omega, by simp [v0], by simp [v2], by simp [hsum], by simp [v11, intsD], by simp [v12], by simp, by simp [g2]⟩
  · simp [k31l0, v12, v13, hi]
    exact ⟨_, _, i, rfl, by omega, by simp [v0], by simp [v2], by simp [v4], by simp [v11, intsD], by simp [v12], by simp [v13], by simp [g2]⟩
def menR (l : List Int) : D := .tup [if serF l = true then menP l else frD 0 0, D.int (if serF l = true then 0 else 62)]
set_option maxHeartbeats 4000000 in
theorem mean_run (l : List Int) {n : Nat} (hn : 1000002000 ≤ n) : pureCall (rc pg n) 31 [intsD l] = some (.ret (menR l)) := by
  obtain ⟨m, rfl, e⟩ := body (pg := pg) (f := 31) (args := [intsD l]) (show 0 < n by omega) rfl rfl
  rw [e]
  have c := fun h => call_of (h := h) (pg := pg) (f := 93) rfl (ints_can l) (series_run l (n := m) (by omega))
  unfold menR
  simp only [intsD] at c
  cases hs : serF l with
  | false =>
    rw [hs] at c
    simp [k31, Env.v_ini, intsD, c, frD, D.cells, D.one]
  | true =>
    rw [hs] at c
    obtain ⟨ok, h1⟩ := ser_ok hs
    have hl1 := ok.1
    have mk := fun h => call_of (h := h) (pg := pg) (f := 24) rfl rfl (make_run l.sum l.length (f := m) (by omega))
    unfold mkR at mk
    rw [mk_ok ok h1] at mk
    obtain ⟨p, q, hpq⟩ : ∃ p q, mkP l.sum l.length = .agg [D.int p, D.int q] := by
      unfold mkP; split <;> exact ⟨_, _, rfl⟩
    unfold menP
    rw [hpq] at mk ⊢
    simp [k31, Env.v_ini, intsD, c, ev_loop]
    refine Res.endsAfter (lp_rule 1 (MeI l) _ (me_round l ok) l.length m _ (by omega) ⟨_, _, 0, rfl, by omega, by simp [Env.v_ini, intsD], by simp, by simp, by simp [intsD], by simp, by simp, by simp⟩) ?_
    rintro x s ⟨rfl, x, h, i, rfl, hi, v0, v2, v4, v11, v12, v13, g2⟩
    obtain rfl : i = l.length := by omega
    rw [List.take_length] at v4
    simp only [intsD] at v0
    simp [v0, v2, v4, mk, g2, D.cells, D.one]
def SmI (l : List Int) (k : Nat) (s : St) : Prop := ∃ (x : Env 27) (h : Heap) (i : Nat), s = ⟨x.l, h, []⟩ ∧ i + k = l.length ∧ x.v 0 = intsD l ∧ x.v 2 = .ptr 2 0 ∧ x.v 3 = D.int (l.take i).sum ∧ x.v 4 = D.int i ∧ h.get 2 = some (.cells 48 [D.int 0, D.int 0]) ∧ 10 ≤ h.next ∧ h.Fr
theorem sm_round (l : List Int) (hl : OkS l) : ∀ n, 1 ≤ n → ∀ k s, SmI l k s → Res (k95l0.ev ⟨pg, 27, none⟩ (rc pg n) s) (Rnd (SmI l) (fun x s => x = .exit 0 ∧ SmI l 0 s) k) := by
  rintro n hn k s ⟨x, h, i, rfl, hik, v0, v2, v3, v4, g2, hx, hf⟩
  have hl1 := hl.1
  simp only [intsD] at v0
  by_cases hi : i < l.length
  · obtain ⟨v, hv⟩ : ∃ v, l[i] = v := ⟨_, rfl⟩
    have hsum := take_sum hi
    rw [hv] at hsum
    have b1 := take_bd hl (i + 1)
    have w1 : IntKind.i64.wrap ((i : Int) + 1) = (i : Int) + 1 := wrap_i64 (by omega) (by omega)
    have w2 : IntKind.i64.wrap ((l.take i).sum + v) = (l.take i).sum + v := wrap_i64 (by omega) (by omega)
    simp [k95l0, v0, v3, v4, hi, hv, D.cells, w1, w2]
    exact ⟨k - 1, by omega, _, _, i + 1, rfl, by omega, by simp [v0, intsD], by simp [v2], by simp [hsum], by simp, by simp [g2], by simp <;> omega, by repeat' first | exact hf | apply Heap.Fr.bump⟩
  · simp [k95l0, v0, v4, hi]
    exact ⟨_, _, i, rfl, by omega, by simp [v0, intsD], by simp [v2], by simp [v3], by simp [v4], by simp [g2], by simp <;> omega, hf.bump _⟩
set_option maxHeartbeats 4000000 in
theorem rmean_run (l : List Int) (ok : OkS l) (h1 : 1 ≤ l.length) {n : Nat} (hn : 1000002000 ≤ n) : pureCall (rc pg n) 95 [intsD l] = some (.ret (menP l)) := by
  obtain ⟨m, rfl, e⟩ := body (pg := pg) (f := 95) (args := [intsD l]) (show 0 < n by omega) rfl rfl
  rw [e]
  have hl1 := ok.1
  have mk := fun h => call_of (h := h) (pg := pg) (f := 25) rfl rfl (rmake_run l.sum l.length (f := m) (by omega))
  unfold mkR at mk
  rw [mk_ok ok h1] at mk
  obtain ⟨p, q, hpq⟩ : ∃ p q, mkP l.sum l.length = .agg [D.int p, D.int q] := by
    unfold mkP; split <;> exact ⟨_, _, rfl⟩
  unfold menP
  rw [hpq] at mk ⊢
  simp [k95, ev_loop]
  refine Res.endsAfter (lp_rule 1 (SmI l) _ (sm_round l ok) l.length m _ (by omega) ⟨_, _, 0, rfl, by omega, by simp [Env.v_ini], by simp, by simp, by simp, by simp, by simp, ?_⟩) ?_
  · repeat' first | exact Heap.Fr.empty | apply Heap.Fr.bump | apply Heap.Fr.set
    all_goals simp
  rintro x s ⟨rfl, x, h, i, rfl, hi, v0, v2, v3, v4, g2, hx, hf⟩
  obtain rfl : i = l.length := by omega
  rw [List.take_length] at v3
  simp only [intsD] at v0
  have hfr : ∀ j, h.raw (h.next + j) = none := fun j => hf _ (by omega)
  have ne : ∀ j, (h.next + j = 2) = False := fun j => by simp; omega
  have ne2 : ∀ j, (2 = h.next + j) = False := fun j => by simp; omega
  simp [v0, v2, v3, mk, g2, hfr, D.cells, D.one]
set_option maxHeartbeats 4000000 in
theorem rmeanE_run (l : List Int) (hl : l.length ≤ 20000000000000) {n : Nat} (hn : l.length + 1000003000 ≤ n) : pureCall (rc pg n) 32 [intsD l] = some (.ret (menR l)) := by
  obtain ⟨m, rfl, e⟩ := body (pg := pg) (f := 32) (args := [intsD l]) (show 0 < n by omega) rfl rfl
  rw [e]
  have c := fun h => call_of (h := h) (pg := pg) (f := 94) rfl (ints_can l) (rseries_run l hl (n := m) (by omega))
  unfold menR
  simp only [intsD] at c
  cases hs : serF l with
  | false =>
    rw [hs] at c
    simp [k32, Env.v_ini, intsD, c, frD, D.cells, D.one]
  | true =>
    rw [hs] at c
    obtain ⟨ok, h1⟩ := ser_ok hs
    have mk := fun h => call_of (h := h) (pg := pg) (f := 95) rfl (ints_can l) (rmean_run l ok h1 (n := m) (by omega))
    obtain ⟨p, q, hpq⟩ : ∃ p q, menP l = .agg [D.int p, D.int q] := by
      unfold menP mkP; split <;> exact ⟨_, _, rfl⟩
    rw [hpq] at mk ⊢
    simp only [intsD] at mk
    simp [k32, Env.v_ini, intsD, c, mk, D.cells, D.one]
end Go.Proofs.YtgbkdjlekfjkfaaGreatDoor
