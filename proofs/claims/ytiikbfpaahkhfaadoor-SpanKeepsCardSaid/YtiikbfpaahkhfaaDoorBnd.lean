/- Bounds of the example. -/
import Derived.Test.YtiikbfpaahkhfaaDoorEx
namespace Go.Proofs.YtiikbfpaahkhfaaDoor
open Go Go.Em
set_option maxRecDepth 100000
theorem bnd_ex_t (R : Rc) : ((rcT pg tb1 R 50).fn 23 [ex, I 0, I 9] .empty).map (fun p => p.1) = some (.ret (.tup [I 14, I 19, I 0])) := by kernel_rfl
theorem bnd_ex (m : Nat) : ((rc pg (m + 90)).fn 23 [ex, I 0, I 9] .empty).map (fun p => p.1) = some (.ret (.tup [I 14, I 19, I 0])) := by
  have h := rcT_eq (pg := pg) (T := tb1) (b := m + 40) (fun n hn => tb1_ok n (by omega)) 50
  have e : m + 40 + 50 = m + 90 := by omega
  rw [e] at h
  rw [← h]
  exact bnd_ex_t _
theorem bnd_pure (m : Nat) : pureCall (rc pg (m + 90)) 23 [ex, I 0, I 9] = some (.ret (.tup [I 14, I 19, I 0])) := by
  have h := rcT_eq (pg := pg) (T := tb1) (b := m + 40) (fun n hn => tb1_ok n (by omega)) 50
  have e : m + 40 + 50 = m + 90 := by omega
  rw [e] at h
  have h2 := bnd_ex m
  unfold pureCall
  cases hc : (rc pg (m + 90)).fn 23 [ex, I 0, I 9] .empty with
  | none => rw [hc] at h2; cases h2
  | some p =>
    obtain ⟨o, hh⟩ := p
    rw [hc] at h2
    simp only [Option.map_some, Option.some.injEq] at h2
    subst h2
    rfl
end Go.Proofs.YtiikbfpaahkhfaaDoor
