/- The document's own answers: years, and whether a sheet is valid. -/
import Derived.Test.YtkdcoldkncpkoaaDoorRef
namespace Go.Proofs.YtkdcoldkncpkoaaDoor
open Go Go.Em
set_option maxRecDepth 100000
theorem years_run (l : List Rw) {n : Nat} (hn : l.length + 10 ≤ n) : pureCall (rc pg n) 33 [rowsD l] = some (.ret (.tup [D.int (yearsF l).1, D.int (yearsF l).2.1, D.int (yearsF l).2.2])) := by
  obtain ⟨m, rfl, e⟩ := body (pg := pg) (f := 33) (args := [rowsD l]) (show 0 < n by omega) rfl rfl
  rw [e]
  by_cases hlen : 400 < l.length
  · have hlen' : (400 : Int) < l.length := by omega
    simp [k33, Env.v_ini, rowsD, hlen', yearsF, natsF, hlen]
  · have hlen' : ¬ (400 : Int) < l.length := by omega
    simp [k33, Env.v_ini, rowsD, hlen', ev_loop]
    refine Res.endsAfter (P := YQ l) (lp_rule 3 (YI l) (YQ l) (years_round l (by omega)) l.length m _ (by omega)
      ⟨_, _, 0, rfl, by omega, by simp [Env.v_ini, rowsD], by simp, by simp [loSum], by simp [hiSum], rfl⟩) ?_
    rintro x s (⟨rfl, x, h, i, rfl, hi, v0, v7, v5, v6, hv⟩ | ⟨rfl, hbad, x, h, rfl, v2, v3, v4⟩)
    · obtain rfl : i = l.length := by omega
      rw [List.take_length] at v5 v6 hv
      by_cases hs : 100000 < hiSum l
      · simp [v5, v6, hs, hv, yearsF, natsF, hlen]
      · simp [v5, v6, hs, hv, yearsF, natsF, hlen]
    · simp [v2, v3, v4, hbad, yearsF, natsF, hlen]
/-- The document's order of marks: their numbers rise. -/
def ordN (last : Int) : List Rw → Bool
  | [] => true
  | r :: l => if r.k = 1 then (if r.n ≤ last then false else ordN r.n l) else ordN last l
/-- It is the order of the marks themselves. -/
theorem ord_same (c : Int) (hc : 0 ≤ c ∧ c ≤ 31) : ∀ (l : List Rw) (last : Int), okAll l = true → -1 ≤ last → last ≤ 63 → ordF c (if last = -1 then -1 else 64 * c + last + 1) l = ordN last l
  | [], _, _, _, _ => rfl
  | r :: l, last, hv, h1, h2 => by
    simp only [okAll, List.all_cons, Bool.and_eq_true] at hv
    have ih := fun last => ord_same c hc l last hv.2
    by_cases hk : r.k = 1
    · have hr : 0 ≤ r.n ∧ r.n ≤ 63 := by
        have := hv.1
        simp [natF, hk, inB] at this
        omega
      have hm : markF c r.n = 64 * c + r.n + 1 := by unfold markF; rw [if_pos ⟨hc, hr⟩]
      have i2 := ih r.n (by omega) (by omega)
      rw [if_neg (by omega)] at i2
      simp only [ordF, ordN, hk, if_true, hm]
      by_cases hle : r.n ≤ last
      · rw [if_pos hle, if_pos (by split <;> omega)]
      · rw [if_neg hle, if_neg (by split <;> omega), i2]
    · simp only [ordF, ordN, hk, if_false]
      exact ih last h1 h2
def RI (sc : List D) (l : List Rw) (k : Nat) (s : St) : Prop := ∃ (x : Env 62) (h : Heap) (i : Nat) (last : Int), s = ⟨x.l, h, []⟩ ∧ i + k = l.length ∧ h.get 1 = some (.cells 26 sc) ∧ x.v 1 = .ptr 1 0 ∧ x.v 7 = D.int i ∧ x.v 6 = D.int last ∧ ordN (-1) l = ordN last (l.drop i)
def RQ (l : List Rw) (x : Ex) (s : St) : Prop :=
  (x = .exit 0 ∧ ordN (-1) l = true ∧ ∃ (x : Env 62) (h : Heap), s = ⟨x.l, h, []⟩) ∨ (x = .ret ∧ ordN (-1) l = false ∧ ∃ (x : Env 62) (h : Heap), s = ⟨x.l, h, []⟩ ∧ x.v 2 = D.int 15)
set_option maxHeartbeats 1000000 in
theorem rcheck_round (i0 r0 c : Int) (l : List Rw) (hl : l.length ≤ 400) : ∀ n, 3 ≤ n → ∀ k s, RI (sheetC i0 r0 c l) l k s → Res (k24l0.ev ⟨pg, 62, none⟩ (rc pg n) s) (Rnd (RI (sheetC i0 r0 c l) l) (RQ l) k) := by
  rintro n hn k s ⟨x, h, i, last, rfl, hik, hg, v1, v7, v6, ho⟩
  simp only [sheetC, rowsD] at hg
  by_cases hlt : i < l.length
  · obtain ⟨r, hr⟩ : ∃ r, l[i] = r := ⟨l[i], rfl⟩
    have hd : l.drop i = r :: l.drop (i + 1) := by rw [List.drop_eq_getElem_cons hlt, hr]
    have hw1 : IntKind.i64.wrap ((i : Int) + 1) = (i : Int) + 1 := wrap_i64 (by omega) (by omega)
    rw [hd] at ho
    by_cases hk1 : r.k = 1
    · have hk1' : (r.k == 1) = true := by simp [hk1]
      by_cases hle : r.n ≤ last
      · simp [k24l0, v1, v7, v6, hg, hlt, hr, rowD, D.cells, hk1', hle]
        exact .inr ⟨rfl, by rw [ho]; simp [ordN, hk1, hle], _, _, rfl, by simp⟩
      · simp [k24l0, v1, v7, v6, hg, hlt, hr, rowD, D.cells, hk1', hle, hw1]
        exact ⟨k - 1, by omega, _, _, i + 1, r.n, rfl, by omega, by simp [hg, sheetC, rowsD], by simp [v1], by simp, by simp, by rw [ho]; simp [ordN, hk1, hle]⟩
    · have hk1' : (r.k == 1) = false := by simp [hk1]
      simp [k24l0, v1, v7, v6, hg, hlt, hr, rowD, D.cells, hk1', hw1]
      exact ⟨k - 1, by omega, _, _, i + 1, last, rfl, by omega, by simp [hg, sheetC, rowsD], by simp [v1], by simp, by simp [v6], by rw [ho]; simp [ordN, hk1]⟩
  · simp [k24l0, v1, v7, hg, hlt]
    have hi : i = l.length := by omega
    rw [hi, List.drop_length] at ho
    exact .inl ⟨rfl, ho, _, _, rfl⟩
end Go.Proofs.YtkdcoldkncpkoaaDoor
