/- Sums; rows that hide nothing. -/
import Derived.Test.YtdljcjbghinhiaaDoorPick
namespace Go.Proofs.YtdljcjbghinhiaaDoor
open Go Go.Em
set_option maxRecDepth 100000
def UJ (l : List Int) (k : Nat) (s : St) : Prop := ∃ (x : Env 17) (h : Heap) (i : Nat), s = ⟨x.l, h, []⟩ ∧ i + k = l.length ∧ x.v 6 = intsD l ∧ x.v 7 = D.int l.length ∧ x.v 8 = D.int i ∧ x.v 3 = D.int (l.take i).sum
def small (l : List Int) : Prop := ∀ a ∈ l, 0 ≤ a ∧ a ≤ 1000000
theorem small_sum : ∀ l : List Int, small l → 0 ≤ l.sum ∧ l.sum ≤ 1000000 * l.length
  | [], _ => by simp
  | a :: l, h => by
    have h1 := h a (by simp)
    have h2 := small_sum l fun b hb => h b (by simp [hb])
    rw [List.sum_cons, List.length_cons]
    omega
theorem sum_round (l : List Int) (hl : l.length ≤ 1000) (hs : small l) : ∀ n, 0 ≤ n → ∀ k s, UJ l k s → Res (k34l0.ev ⟨pg, 17, none⟩ (rc pg n) s) (Rnd (UJ l) (fun x s => x = .exit 0 ∧ UJ l 0 s) k) := by
  rintro n hn k s ⟨x, h, i, rfl, hik, v6, v7, v8, v3⟩
  simp only [intsD] at v6
  by_cases hlt : i < l.length
  · obtain ⟨r, hr⟩ : ∃ r, l[i] = r := ⟨l[i], rfl⟩
    have hw1 : IntKind.i64.wrap ((i : Int) + 1) = (i : Int) + 1 := wrap_i64 (by omega) (by omega)
    have htake : l.take (i + 1) = l.take i ++ [r] := by rw [List.take_add_one, List.getElem?_eq_getElem hlt, hr]; rfl
    have hb := small_sum (l.take (i + 1)) fun a ha => hs a (List.mem_of_mem_take ha)
    rw [List.length_take] at hb
    have hw2 : IntKind.i64.wrap ((l.take i).sum + r) = (l.take (i + 1)).sum := by
      have e : (l.take (i + 1)).sum = (l.take i).sum + r := by rw [htake]; simp
      rw [← e]; exact wrap_i64 (by omega) (by omega)
    simp [k34l0, v6, v7, v8, v3, hlt, hr, D.cells, hw1, hw2]
    exact ⟨k - 1, by omega, _, _, i + 1, rfl, by omega, by simp [v6, intsD], by simp [v7], by simp, by simp⟩
  · simp [k34l0, v7, v8, hlt]
    exact ⟨_, _, i, rfl, by omega, by simp [v6, intsD], by simp [v7], by simp [v8], by simp [v3]⟩
theorem sum_run (l : List Int) (hl : l.length ≤ 1000) (hs : small l) {n : Nat} (hn : l.length + 5 ≤ n) : pureCall (rc pg n) 34 [intsD l] = some (.ret (D.int l.sum)) := by
  obtain ⟨m, rfl, e⟩ := body (pg := pg) (f := 34) (args := [intsD l]) (show 0 < n by omega) rfl rfl
  rw [e]
  simp [k34, Env.v_ini, intsD, ev_loop]
  refine Res.endsAfter (lp_rule 0 (UJ l) _ (sum_round l hl hs) l.length m _ (by omega) ⟨_, _, 0, rfl, by omega, by simp [intsD], by simp, by simp, by simp⟩) ?_
  rintro x s ⟨rfl, x, h, i, rfl, hi, v6, v7, v8, v3⟩
  obtain rfl : i = l.length := by omega
  rw [List.take_length] at v3
  simp [v3]
theorem natD_canon (t : Nt) : (natD t).canon = true := by
  simp only [natD, natC, D.canonL, D.canon, Bool.and_true, Bool.not_false, Bool.true_and]
  exact canonL_map _ (fun _ => rfl) _
theorem hides_run {n : Nat} (hn : 1 ≤ n) (t : Nt) : pureCall (rc pg n) 55 [natD t] = some (.ret (D.bool t.hides)) := by
  obtain ⟨m, rfl, e⟩ := body (pg := pg) (f := 55) (args := [natD t]) (show 0 < n by omega) rfl rfl
  rw [e]
  simp [k55, Env.v_ini, natD, natC, D.cells, D.one]
def natsD (l : List Nt) : D := .sl false (l.map natD)
def hidF : D := .fn (.func 55) [] []
/-- A search: none so far. -/
def FI (l : List Nt) (k : Nat) (s : St) : Prop := ∃ (x : Env 19) (h : Heap) (i : Nat), s = ⟨x.l, h, []⟩ ∧ i + k = l.length ∧ x.v 0 = natsD l ∧ x.v 1 = hidF ∧ x.v 7 = D.int l.length ∧ x.v 8 = D.int i ∧ (l.take i).any (·.hides) = false
def FQ (l : List Nt) (x : Ex) (s : St) : Prop := (x = .exit 0 ∧ FI l 0 s) ∨ (x = .ret ∧ l.any (·.hides) = true ∧ ∃ (x : Env 19) (h : Heap) (i : Nat), s = ⟨x.l, h, []⟩ ∧ x.v 4 = D.int i)
theorem find_round (l : List Nt) (hl : l.length ≤ 400) : ∀ n, 2 ≤ n → ∀ k s, FI l k s → Res (k77l0.ev ⟨pg, 19, none⟩ (rc pg n) s) (Rnd (FI l) (FQ l) k) := by
  rintro n hn k s ⟨x, h, i, rfl, hik, v0, v1, v7, v8, hv⟩
  simp only [natsD] at v0
  simp only [hidF] at v1
  by_cases hlt : i < l.length
  · obtain ⟨r, hr⟩ : ∃ r, l[i] = r := ⟨l[i], rfl⟩
    have hw1 : IntKind.i64.wrap ((i : Int) + 1) = (i : Int) + 1 := wrap_i64 (by omega) (by omega)
    have htake : l.take (i + 1) = l.take i ++ [r] := by rw [List.take_add_one, List.getElem?_eq_getElem hlt, hr]; rfl
    have hc : D.canonL [natD r] = true := by simp [natD_canon]
    have j1 := fun h => call_of (h := h) (pg := pg) (f := 55) rfl hc (@hides_run n (by omega) r)
    have hcell : (natD r).cells = natC r := rfl
    have hnl : (natC r).length = 7 := rfl
    have htk : (natC r).take 7 = natC r := rfl
    simp only [natD] at j1
    by_cases hh : r.hides = true
    · simp [k77l0, v0, v1, v7, v8, hlt, hr, hcell, hnl, htk, j1, hh]
      exact .inr ⟨rfl, by rw [List.any_eq_true]; exact ⟨r, by rw [← hr]; exact List.getElem_mem hlt, hh⟩, _, _, i, rfl, by simp⟩
    · simp [k77l0, v0, v1, v7, v8, hlt, hr, hcell, hnl, htk, j1, hh, hw1]
      exact ⟨k - 1, by omega, _, _, i + 1, rfl, by omega, by simp [v0, natsD], by simp [v1, hidF], by simp [v7], by simp, by rw [htake, List.any_append, hv]; simp [hh]⟩
  · simp [k77l0, v7, v8, hlt]
    exact .inl ⟨rfl, _, _, i, rfl, by omega, by simp [v0, natsD], by simp [v1, hidF], by simp [v7], by simp [v8], hv⟩
theorem find_run (l : List Nt) (hl : l.length ≤ 400) {n : Nat} (hn : l.length + 10 ≤ n) : ∃ d : Int, pureCall (rc pg n) 77 [natsD l, hidF] = some (.ret (D.int d)) ∧ decide (d ≥ 0) = l.any (·.hides) := by
  obtain ⟨m, rfl, e⟩ := body (pg := pg) (f := 77) (args := [natsD l, hidF]) (show 0 < n by omega) rfl rfl
  rw [e]
  obtain ⟨x, s, e1, hq⟩ := lp_rule 2 (FI l) (FQ l) (find_round l hl) l.length m { e := ((((Env.ini 19 [natsD l, hidF]).upd 4 (D.int 0)).upd 6 (natsD l)).upd 7 (D.int l.length)).upd 8 (D.int 0) |>.l, h := (Heap.empty.bump 19).bump 19, df := [] } (by omega)
    ⟨_, _, 0, rfl, by omega, by simp [Env.v_ini], by simp [Env.v_ini], by simp, by simp, rfl⟩
  simp only [natsD, hidF] at e1 ⊢
  simp [k77, Env.v_ini, ev_loop, e1]
  rcases hq with ⟨rfl, x, h, i, rfl, hi, v0, v1, v7, v8, hv⟩ | ⟨rfl, ha, x, h, i, rfl, v4⟩
  · obtain rfl : i = l.length := by omega
    rw [List.take_length] at hv
    exact ⟨-1, by simp, by simpa using hv⟩
  · exact ⟨i, by simp [v4], by simpa using ha⟩
end Go.Proofs.YtdljcjbghinhiaaDoor
