/- Which sources of the example contradict each other. -/
import Derived.Test.YtiikbfpaahkhfaaDoorEx
namespace Go.Proofs.YtiikbfpaahkhfaaDoor
open Go Go.Em
set_option maxRecDepth 100000
theorem fails0_t (R : Rc) : ((rcT pg tb1 R 50).fn 52 [trial true true true true true] .empty).map (fun p => p.1) = some (.ret (B true)) := by kernel_rfl
theorem fails0 (m : Nat) : ((rc pg (m + 90)).fn 52 [trial true true true true true] .empty).map (fun p => p.1) = some (.ret (B true)) := by
  have h := rcT_eq (pg := pg) (T := tb1) (b := m + 40) (fun n hn => tb1_ok n (by omega)) 50
  have e : m + 40 + 50 = m + 90 := by omega
  rw [e] at h
  rw [← h]
  exact fails0_t _
theorem fails1_t (R : Rc) : ((rcT pg tb1 R 50).fn 52 [trial true true true true false] .empty).map (fun p => p.1) = some (.ret (B false)) := by kernel_rfl
theorem fails1 (m : Nat) : ((rc pg (m + 90)).fn 52 [trial true true true true false] .empty).map (fun p => p.1) = some (.ret (B false)) := by
  have h := rcT_eq (pg := pg) (T := tb1) (b := m + 40) (fun n hn => tb1_ok n (by omega)) 50
  have e : m + 40 + 50 = m + 90 := by omega
  rw [e] at h
  rw [← h]
  exact fails1_t _
theorem fails2_t (R : Rc) : ((rcT pg tb1 R 50).fn 52 [trial true true true false true] .empty).map (fun p => p.1) = some (.ret (B false)) := by kernel_rfl
theorem fails2 (m : Nat) : ((rc pg (m + 90)).fn 52 [trial true true true false true] .empty).map (fun p => p.1) = some (.ret (B false)) := by
  have h := rcT_eq (pg := pg) (T := tb1) (b := m + 40) (fun n hn => tb1_ok n (by omega)) 50
  have e : m + 40 + 50 = m + 90 := by omega
  rw [e] at h
  rw [← h]
  exact fails2_t _
end Go.Proofs.YtiikbfpaahkhfaaDoor
