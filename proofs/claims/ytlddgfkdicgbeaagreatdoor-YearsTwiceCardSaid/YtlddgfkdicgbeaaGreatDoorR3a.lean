/- Rows of a table: closed calls. -/
import Derived.Test.YtlddgfkdicgbeaaGreatDoorT2
namespace Go.Proofs.YtlddgfkdicgbeaaGreatDoor
open Go Go.Em
set_option maxRecDepth 100000
theorem r4_t (R : Rc) : ((rcT pg tb2 R 250).fn 144 [(.sl false [q3, q4]), I 0, I 2] .empty).map (fun p => p.1) = some (.ret ((.tup [(.agg [(.sl false [I 0, I 1, I 2]), (.sl false [q1, q2, q5]), I 0, I 2]), I 0]))) := by kernel_rfl
theorem r4 (m : Nat) : ((rc pg (m + 750)).fn 144 [(.sl false [q3, q4]), I 0, I 2] .empty).map (fun p => p.1) = some (.ret ((.tup [(.agg [(.sl false [I 0, I 1, I 2]), (.sl false [q1, q2, q5]), I 0, I 2]), I 0]))) := by
  have h := rcT_eq (pg := pg) (T := tb2) (b := m + 500) (fun n hn => tb2_ok n (by omega)) 250
  have e : m + 500 + 250 = m + 750 := by omega
  rw [e] at h
  rw [← h]
  exact r4_t _
end Go.Proofs.YtlddgfkdicgbeaaGreatDoor
/- Rows of a table: closed calls. -/
namespace Go.Proofs.YtlddgfkdicgbeaaGreatDoor
open Go Go.Em
set_option maxRecDepth 100000
theorem r6_t (R : Rc) : ((rcT pg tb2 R 250).fn 144 [(.sl false [q3, q4]), I 2, I 1] .empty).map (fun p => p.1) = some (.ret ((.tup [(.agg [(.sl false [I 0, I 1, I 2]), (.sl false [q1, q2, q5]), I 2, I 1]), I 0]))) := by kernel_rfl
theorem r6 (m : Nat) : ((rc pg (m + 750)).fn 144 [(.sl false [q3, q4]), I 2, I 1] .empty).map (fun p => p.1) = some (.ret ((.tup [(.agg [(.sl false [I 0, I 1, I 2]), (.sl false [q1, q2, q5]), I 2, I 1]), I 0]))) := by
  have h := rcT_eq (pg := pg) (T := tb2) (b := m + 500) (fun n hn => tb2_ok n (by omega)) 250
  have e : m + 500 + 250 = m + 750 := by omega
  rw [e] at h
  rw [← h]
  exact r6_t _
end Go.Proofs.YtlddgfkdicgbeaaGreatDoor
/- Rows of a table: closed calls. -/
namespace Go.Proofs.YtlddgfkdicgbeaaGreatDoor
open Go Go.Em
set_option maxRecDepth 100000
theorem r8_t (R : Rc) : ((rcT pg tb2 R 250).fn 73 [(.sl false [q3, q4])] .empty).map (fun p => p.1) = some (.ret ((.tup [(.agg [(.sl false [I 0, I 1, I 2]), (.sl false [q1, q2, q5])]), I 0]))) := by kernel_rfl
theorem r8 (m : Nat) : ((rc pg (m + 750)).fn 73 [(.sl false [q3, q4])] .empty).map (fun p => p.1) = some (.ret ((.tup [(.agg [(.sl false [I 0, I 1, I 2]), (.sl false [q1, q2, q5])]), I 0]))) := by
  have h := rcT_eq (pg := pg) (T := tb2) (b := m + 500) (fun n hn => tb2_ok n (by omega)) 250
  have e : m + 500 + 250 = m + 750 := by omega
  rw [e] at h
  rw [← h]
  exact r8_t _
end Go.Proofs.YtlddgfkdicgbeaaGreatDoor
/- Rows of a table: closed calls. -/
namespace Go.Proofs.YtlddgfkdicgbeaaGreatDoor
open Go Go.Em
set_option maxRecDepth 100000
theorem r3_t (R : Rc) : ((rcT pg tb2 R 250).fn 143 [(.sl false [q3, q4])] .empty).map (fun p => p.1) = some (.ret ((.tup [(.sl false []), I 0]))) := by kernel_rfl
theorem r3 (m : Nat) : ((rc pg (m + 750)).fn 143 [(.sl false [q3, q4])] .empty).map (fun p => p.1) = some (.ret ((.tup [(.sl false []), I 0]))) := by
  have h := rcT_eq (pg := pg) (T := tb2) (b := m + 500) (fun n hn => tb2_ok n (by omega)) 250
  have e : m + 500 + 250 = m + 750 := by omega
  rw [e] at h
  rw [← h]
  exact r3_t _
end Go.Proofs.YtlddgfkdicgbeaaGreatDoor
