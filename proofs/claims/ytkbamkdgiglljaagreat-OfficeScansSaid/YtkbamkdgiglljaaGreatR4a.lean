/- Rows of a table: closed calls. -/
import Derived.Test.YtkbamkdgiglljaaGreatT3
namespace Go.Proofs.YtkbamkdgiglljaaGreat
open Go Go.Em
set_option maxRecDepth 100000
theorem r8_t (R : Rc) : ((rcT pg tb3 R 100).fn 50 [(.agg [q7]), (.agg [I 0, I 0]), I 9] .empty).map (fun p => p.1) = some (.ret ((.tup [(.agg [I 0, I 1]), I 0]))) := by kernel_rfl
theorem r8 (m : Nat) : ((rc pg (m + 400)).fn 50 [(.agg [q7]), (.agg [I 0, I 0]), I 9] .empty).map (fun p => p.1) = some (.ret ((.tup [(.agg [I 0, I 1]), I 0]))) := by
  have h := rcT_eq (pg := pg) (T := tb3) (b := m + 300) (fun n hn => tb3_ok n (by omega)) 100
  have e : m + 300 + 100 = m + 400 := by omega
  rw [e] at h
  rw [← h]
  exact r8_t _
theorem r19_t (R : Rc) : ((rcT pg tb3 R 100).fn 50 [(.agg [q7]), (.agg [I 0, I 0]), I 8] .empty).map (fun p => p.1) = some (.ret ((.tup [(.agg [I 0, I 0]), I 4]))) := by kernel_rfl
theorem r19 (m : Nat) : ((rc pg (m + 400)).fn 50 [(.agg [q7]), (.agg [I 0, I 0]), I 8] .empty).map (fun p => p.1) = some (.ret ((.tup [(.agg [I 0, I 0]), I 4]))) := by
  have h := rcT_eq (pg := pg) (T := tb3) (b := m + 300) (fun n hn => tb3_ok n (by omega)) 100
  have e : m + 300 + 100 = m + 400 := by omega
  rw [e] at h
  rw [← h]
  exact r19_t _
theorem r12_t (R : Rc) : ((rcT pg tb3 R 100).fn 50 [(.agg [q7]), (.agg [I 0, I 0]), I 10] .empty).map (fun p => p.1) = some (.ret ((.tup [(.agg [I 0, I 0]), I 0]))) := by kernel_rfl
theorem r12 (m : Nat) : ((rc pg (m + 400)).fn 50 [(.agg [q7]), (.agg [I 0, I 0]), I 10] .empty).map (fun p => p.1) = some (.ret ((.tup [(.agg [I 0, I 0]), I 0]))) := by
  have h := rcT_eq (pg := pg) (T := tb3) (b := m + 300) (fun n hn => tb3_ok n (by omega)) 100
  have e : m + 300 + 100 = m + 400 := by omega
  rw [e] at h
  rw [← h]
  exact r12_t _
end Go.Proofs.YtkbamkdgiglljaaGreat
