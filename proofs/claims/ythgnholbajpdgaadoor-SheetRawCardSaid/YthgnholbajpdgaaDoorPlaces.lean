/- The numbers of marks, and their places: what the program's Mark and Place answer, and that the law on them holds. -/
import Derived.Test.YthgnholbajpdgaaDoorSane
import Derived.Test.YthgnholbajpdgaaDoorEmZ
namespace Go.Proofs.YthgnholbajpdgaaDoor
open Go Go.Em
set_option maxRecDepth 100000
theorem within_run {n : Nat} (hn : 1 ≤ n) (a lo hi : Int) (h : Heap) : call pg (rc pg n) 63 [D.int a, D.int lo, D.int hi] h = some (.ret (D.bool (decide (lo ≤ a) && decide (a ≤ hi))), h) := by
  refine call_of rfl rfl ?_
  obtain ⟨m, rfl, e⟩ := body (pg := pg) (f := 63) (args := [D.int a, D.int lo, D.int hi]) hn rfl rfl
  rw [e]
  by_cases h1 : lo ≤ a <;> simp [k63, Env.v_ini, h1]

/-- The number of a mark. -/
def markF (c n : Int) : Int := if (0 ≤ c ∧ c ≤ 31) ∧ (0 ≤ n ∧ n ≤ 63) then 64 * c + n + 1 else -1
theorem mark_run {n : Nat} (hn : 2 ≤ n) (a b : Int) (h : Heap) : call pg (rc pg n) 25 [D.int a, D.int b] h = some (.ret (D.int (markF a b)), h) := by
  refine call_of rfl rfl ?_
  obtain ⟨m, rfl, e⟩ := body (pg := pg) (f := 25) (args := [D.int a, D.int b]) (show 0 < n by omega) rfl rfl
  rw [e]
  have hw := @within_run m (by omega)
  by_cases h1 : 0 ≤ a <;> by_cases h2 : a ≤ 31 <;> by_cases h3 : 0 ≤ b <;> by_cases h4 : b ≤ 63 <;> simp [k25, Env.v_ini, hw, h1, h2, h3, h4, markF]
  rw [wrap_i64 (n := 64 * a) (by omega) (by omega), wrap_i64 (n := 64 * a + b) (by omega) (by omega), wrap_i64 (by omega) (by omega)]

/-- A mark's core and number. -/
def placeF (m : Int) : Int × Int := if 1 ≤ m ∧ m ≤ 2048 then ((m - 1) / 64, (m - 1) % 64) else (-1, -1)
theorem place_run {n : Nat} (hn : 2 ≤ n) (a : Int) (h : Heap) : call pg (rc pg n) 19 [D.int a] h = some (.ret (.tup [D.int (placeF a).1, D.int (placeF a).2]), h) := by
  refine call_of rfl rfl ?_
  obtain ⟨m, rfl, e⟩ := body (pg := pg) (f := 19) (args := [D.int a]) (show 0 < n by omega) rfl rfl
  rw [e]
  have hw := @within_run m (by omega)
  by_cases h1 : 1 ≤ a <;> by_cases h2 : a ≤ 2048 <;> simp [k19, Env.v_ini, hw, h1, h2, placeF, bin_quo, bin_rem]
  rw [wrap_i64 (n := a - 1) (by omega) (by omega), Int.tdiv_eq_ediv_of_nonneg (by omega), Int.tmod_eq_emod_of_nonneg (by omega), wrap_i64 (by omega) (by omega)]
  exact ⟨rfl, rfl⟩

theorem place_mark (c n : Int) : markF c n = -1 ∨ (0 ≤ markF c n ∧ placeF (markF c n) = (c, n)) := by
  unfold markF placeF
  split
  · refine .inr ⟨by omega, ?_⟩
    rw [if_pos (by omega)]
    refine Prod.ext ?_ ?_ <;> simp only <;> omega
  · exact .inl rfl
theorem mark_place (m : Int) : ((m < 1 ∨ 2048 < m) ∧ placeF m = (-1, -1)) ∨ (0 ≤ (placeF m).1 ∧ markF (placeF m).1 (placeF m).2 = m) := by
  unfold markF placeF
  split
  · refine .inr ⟨by simp only; omega, ?_⟩
    simp only
    rw [if_pos (by omega)]
    omega
  · exact .inl ⟨by omega, rfl⟩
theorem places_run {n : Nat} (hn : 61 ≤ n) (a b c : Int) : pureCall (rc pg n) 4 [D.int a, D.int b, D.int c] = some (.ret (D.bool true)) := by
  obtain ⟨m, hm, e⟩ := body (pg := pg) (f := 4) (args := [D.int a, D.int b, D.int c]) (show 0 < n by omega) rfl rfl
  rw [e]
  have hs := @sane_call m (by omega)
  have hp := @place_run m (by omega)
  replace hm := @mark_run m (by omega)
  have e1 : placeF (-1) = (-1, -1) := by decide
  rcases place_mark b c with h1 | ⟨h2, h1⟩
  · rcases mark_place a with ⟨h3, h4⟩ | ⟨h3, h4⟩
    · by_cases h5 : a < 1
      · simp [k4, Env.v_ini, hs, hm, hp, e1, h1, h4, h5]
      · have h6 : 2048 < a := by omega
        simp [k4, Env.v_ini, hs, hm, hp, e1, h1, h4, h5, h6]
    · have h5 : ¬ (placeF a).1 < 0 := by omega
      simp [k4, Env.v_ini, hs, hm, hp, e1, h1, h4, h5]
  · have h7 : ¬ markF b c < 0 := by omega
    rcases mark_place a with ⟨h3, h4⟩ | ⟨h3, h4⟩
    · by_cases h5 : a < 1
      · simp [k4, Env.v_ini, hs, hm, hp, h1, h2, h7, h4, h5]
      · have h6 : 2048 < a := by omega
        simp [k4, Env.v_ini, hs, hm, hp, h1, h2, h7, h4, h5, h6]
    · have h5 : ¬ (placeF a).1 < 0 := by omega
      simp [k4, Env.v_ini, hs, hm, hp, h1, h2, h7, h4, h5]
end Go.Proofs.YthgnholbajpdgaaDoor
