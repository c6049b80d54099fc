/- Which sources of the example contradict each other. -/
import Derived.Test.YtiikbfpaahkhfaaDoorEx
namespace Go.Proofs.YtiikbfpaahkhfaaDoor
open Go Go.Em
set_option maxRecDepth 100000
theorem fails3_t (R : Rc) : ((rcT pg tb1 R 50).fn 52 [trial true true false true true] .empty).map (fun p => p.1) = some (.ret (B true)) := by kernel_rfl
theorem fails3 (m : Nat) : ((rc pg (m + 90)).fn 52 [trial true true false true true] .empty).map (fun p => p.1) = some (.ret (B true)) := by
  have h := rcT_eq (pg := pg) (T := tb1) (b := m + 40) (fun n hn => tb1_ok n (by omega)) 50
  have e : m + 40 + 50 = m + 90 := by omega
  rw [e] at h
  rw [← h]
  exact fails3_t _
theorem fails4_t (R : Rc) : ((rcT pg tb1 R 50).fn 52 [trial true false false true true] .empty).map (fun p => p.1) = some (.ret (B true)) := by kernel_rfl
theorem fails4 (m : Nat) : ((rc pg (m + 90)).fn 52 [trial true false false true true] .empty).map (fun p => p.1) = some (.ret (B true)) := by
  have h := rcT_eq (pg := pg) (T := tb1) (b := m + 40) (fun n hn => tb1_ok n (by omega)) 50
  have e : m + 40 + 50 = m + 90 := by omega
  rw [e] at h
  rw [← h]
  exact fails4_t _
theorem fails5_t (R : Rc) : ((rcT pg tb1 R 50).fn 52 [trial false false false true true] .empty).map (fun p => p.1) = some (.ret (B true)) := by kernel_rfl
theorem fails5 (m : Nat) : ((rc pg (m + 90)).fn 52 [trial false false false true true] .empty).map (fun p => p.1) = some (.ret (B true)) := by
  have h := rcT_eq (pg := pg) (T := tb1) (b := m + 40) (fun n hn => tb1_ok n (by omega)) 50
  have e : m + 40 + 50 = m + 90 := by omega
  rw [e] at h
  rw [← h]
  exact fails5_t _
theorem cyc_mo_t (R : Rc) : ((rcT pg tb1 R 50).fn 13 [mo, chn] .empty).map (fun p => p.1) = some (.ret (I 0)) := by kernel_rfl
theorem cyc_mo (m : Nat) : ((rc pg (m + 90)).fn 13 [mo, chn] .empty).map (fun p => p.1) = some (.ret (I 0)) := by
  have h := rcT_eq (pg := pg) (T := tb1) (b := m + 40) (fun n hn => tb1_ok n (by omega)) 50
  have e : m + 40 + 50 = m + 90 := by omega
  rw [e] at h
  rw [← h]
  exact cyc_mo_t _
end Go.Proofs.YtiikbfpaahkhfaaDoor
