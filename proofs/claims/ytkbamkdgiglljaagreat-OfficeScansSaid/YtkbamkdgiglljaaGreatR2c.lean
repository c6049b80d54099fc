/- Rows of a table: closed calls. -/
import Derived.Test.YtkbamkdgiglljaaGreatT1
namespace Go.Proofs.YtkbamkdgiglljaaGreat
open Go Go.Em
set_option maxRecDepth 100000
theorem r9_t (R : Rc) : ((rcT pg tb1 R 100).fn 87 [(.agg [q7, I 10]), q1, (.sl false [I 6])] .empty).map (fun p => p.1) = some (.ret ((.sl false [q2]))) := by kernel_rfl
theorem r9 (m : Nat) : ((rc pg (m + 200)).fn 87 [(.agg [q7, I 10]), q1, (.sl false [I 6])] .empty).map (fun p => p.1) = some (.ret ((.sl false [q2]))) := by
  have h := rcT_eq (pg := pg) (T := tb1) (b := m + 100) (fun n hn => tb1_ok n (by omega)) 100
  have e : m + 100 + 100 = m + 200 := by omega
  rw [e] at h
  rw [← h]
  exact r9_t _
theorem r14_t (R : Rc) : ((rcT pg tb1 R 100).fn 87 [(.agg [q7, I 8]), q1, (.sl false [I 6])] .empty).map (fun p => p.1) = some (.ret ((.sl false [q2]))) := by kernel_rfl
theorem r14 (m : Nat) : ((rc pg (m + 200)).fn 87 [(.agg [q7, I 8]), q1, (.sl false [I 6])] .empty).map (fun p => p.1) = some (.ret ((.sl false [q2]))) := by
  have h := rcT_eq (pg := pg) (T := tb1) (b := m + 100) (fun n hn => tb1_ok n (by omega)) 100
  have e : m + 100 + 100 = m + 200 := by omega
  rw [e] at h
  rw [← h]
  exact r14_t _
end Go.Proofs.YtkbamkdgiglljaaGreat
