/- Rows of a table: closed calls. -/
import Derived.Test.YtkbamkdgiglljaaGreatT1
namespace Go.Proofs.YtkbamkdgiglljaaGreat
open Go Go.Em
set_option maxRecDepth 100000
theorem r1_t (R : Rc) : ((rcT pg tb1 R 100).fn 25 [(.agg [q7])] .empty).map (fun p => p.1) = some (.ret (I 0)) := by kernel_rfl
theorem r1 (m : Nat) : ((rc pg (m + 200)).fn 25 [(.agg [q7])] .empty).map (fun p => p.1) = some (.ret (I 0)) := by
  have h := rcT_eq (pg := pg) (T := tb1) (b := m + 100) (fun n hn => tb1_ok n (by omega)) 100
  have e : m + 100 + 100 = m + 200 := by omega
  rw [e] at h
  rw [← h]
  exact r1_t _
end Go.Proofs.YtkbamkdgiglljaaGreat
/- Rows of a table: closed calls. -/
namespace Go.Proofs.YtkbamkdgiglljaaGreat
open Go Go.Em
set_option maxRecDepth 100000
theorem r22_t (R : Rc) : ((rcT pg tb1 R 100).fn 92 [(.agg [q8, (.sl false []), (.sl false []), (.sl false [])])] .empty).map (fun p => p.1) = some (.ret ((.tup [(.agg [q8, .val (.slice none 0 0), .val (.slice none 0 0), .val (.slice none 0 0)]), (.agg [(.sl false []), I 0, I 1]), I 0]))) := by kernel_rfl
theorem r22 (m : Nat) : ((rc pg (m + 200)).fn 92 [(.agg [q8, (.sl false []), (.sl false []), (.sl false [])])] .empty).map (fun p => p.1) = some (.ret ((.tup [(.agg [q8, .val (.slice none 0 0), .val (.slice none 0 0), .val (.slice none 0 0)]), (.agg [(.sl false []), I 0, I 1]), I 0]))) := by
  have h := rcT_eq (pg := pg) (T := tb1) (b := m + 100) (fun n hn => tb1_ok n (by omega)) 100
  have e : m + 100 + 100 = m + 200 := by omega
  rw [e] at h
  rw [← h]
  exact r22_t _
theorem r3_t (R : Rc) : ((rcT pg tb1 R 100).fn 87 [(.agg [q7, I 9]), q1, (.sl false [I 6])] .empty).map (fun p => p.1) = some (.ret ((.sl false [q2]))) := by kernel_rfl
theorem r3 (m : Nat) : ((rc pg (m + 200)).fn 87 [(.agg [q7, I 9]), q1, (.sl false [I 6])] .empty).map (fun p => p.1) = some (.ret ((.sl false [q2]))) := by
  have h := rcT_eq (pg := pg) (T := tb1) (b := m + 100) (fun n hn => tb1_ok n (by omega)) 100
  have e : m + 100 + 100 = m + 200 := by omega
  rw [e] at h
  rw [← h]
  exact r3_t _
end Go.Proofs.YtkbamkdgiglljaaGreat
