/- Fractions: Rate and Cmp; the law, by the evaluator. -/
import Derived.Test.YtngjpeoloaeneaaGreatDoorFc2
import Derived.Test.YtngjpeoloaeneaaGreatDoorSane
namespace Go.Proofs.YtngjpeoloaeneaaGreatDoor
open Go Go.Em
set_option maxRecDepth 100000
theorem fr_canon (a b : Int) : (frD a b).canon = true := by simp [frD]
def okR (n d : Int) : Bool := inR n (-1000000000) 1000000000 && inR d 1 1000000000
theorem okR_sm {n d : Int} (h : okR n d = true) : Sm n ∧ 1 ≤ d ∧ d ≤ 1000000000 := by
  unfold okR at h
  rw [Bool.and_eq_true] at h
  refine ⟨inR_sm h.1, ?_⟩
  have := h.2
  unfold inR at this
  simpa using this
theorem valid_run (n d : Int) {f : Nat} (hf : 10 ≤ f) : pureCall (rc pg f) 57 [frD n d] = some (.ret (D.bool (okR n d))) := by
  obtain ⟨m, rfl, e⟩ := body (pg := pg) (f := 57) (args := [frD n d]) (show 0 < f by omega) rfl rfl
  rw [e]
  have hw := @within_run m (by omega)
  unfold okR
  cases h1 : inR n (-1000000000) 1000000000 <;> simp [k57, Env.v_ini, hw, h1, frD, D.cells, D.one]
def sgn (x y : Int) : Int := if x < y then -1 else if y < x then 1 else 0
theorem nan_run (a : Int) {f : Nat} (hf : 2 ≤ f) : pureCall (rc pg f) 76 [D.int a] = some (.ret (D.bool false)) := by
  obtain ⟨m, rfl, e⟩ := body (pg := pg) (f := 76) (args := [D.int a]) (show 0 < f by omega) rfl rfl
  rw [e]
  simp [k76, Env.v_ini]
theorem compare_run (x y : Int) {f : Nat} (hf : 10 ≤ f) : pureCall (rc pg f) 58 [D.int x, D.int y] = some (.ret (D.int (sgn x y))) := by
  obtain ⟨m, rfl, e⟩ := body (pg := pg) (f := 58) (args := [D.int x, D.int y]) (show 0 < f by omega) rfl rfl
  rw [e]
  have hn := fun a h => call_of (h := h) (pg := pg) (f := 76) rfl rfl (nan_run a (f := m) (by omega))
  unfold sgn
  by_cases h1 : x < y
  · simp [k58, Env.v_ini, hn, h1]
  · by_cases h2 : y < x <;> simp [k58, Env.v_ini, hn, h1, h2]
def cmR (a b c d : Int) : Int := if (okR a b && okR c d) = true then sgn (a * d) (c * b) else 0
theorem mul_sm {a d : Int} (ha : Sm a) (h1 : 1 ≤ d) (h2 : d ≤ 1000000000) : IntKind.i64.wrap (a * d) = a * d := by
  have k1 : a * d ≤ 1000000000 * 1000000000 := by
    have := Int.mul_le_mul ha.2 h2 (by omega) (by omega : (0 : Int) ≤ 1000000000)
    exact this
  have k2 : -(1000000000 * 1000000000) ≤ a * d := by
    have := Int.mul_le_mul (show -a ≤ 1000000000 by have := ha.1; omega) h2 (by omega) (by omega : (0 : Int) ≤ 1000000000)
    rw [Int.neg_mul] at this
    omega
  exact wrap_i64 (by omega) (by omega)
set_option maxHeartbeats 4000000 in
theorem cmp_run (a b c d : Int) {f : Nat} (hf : 30 ≤ f) : pureCall (rc pg f) 30 [frD a b, frD c d] = some (.ret (D.int (cmR a b c d))) := by
  obtain ⟨m, rfl, e⟩ := body (pg := pg) (f := 30) (args := [frD a b, frD c d]) (show 0 < f by omega) rfl rfl
  rw [e]
  have v1 := fun h => call_of (h := h) (pg := pg) (f := 57) rfl (by simp [fr_canon]) (valid_run a b (f := m) (by omega))
  have v2 := fun h => call_of (h := h) (pg := pg) (f := 57) rfl (by simp [fr_canon]) (valid_run c d (f := m) (by omega))
  have cp := fun x y h => call_of (h := h) (pg := pg) (f := 58) rfl rfl (compare_run x y (f := m) (by omega))
  unfold cmR
  simp only [frD] at v1 v2
  cases h1 : okR a b with
  | false => rw [h1] at v1; simp [k30, Env.v_ini, v1, frD, D.cells, D.one]
  | true =>
    rw [h1] at v1
    cases h2 : okR c d with
    | false => rw [h2] at v2; simp [k30, Env.v_ini, v1, v2, frD, D.cells, D.one]
    | true =>
      rw [h2] at v2
      obtain ⟨s1, s2, s3⟩ := okR_sm h1
      obtain ⟨t1, t2, t3⟩ := okR_sm h2
      have w1 := mul_sm s1 t2 t3
      have w2 := mul_sm t1 s2 s3
      simp [k30, Env.v_ini, v1, v2, cp, w1, w2, frD, D.cells, D.one]
end Go.Proofs.YtngjpeoloaeneaaGreatDoor
