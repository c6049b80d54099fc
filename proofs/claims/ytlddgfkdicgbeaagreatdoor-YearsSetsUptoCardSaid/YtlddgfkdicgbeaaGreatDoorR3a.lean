/- Rows of a table: closed calls. -/
import Derived.Test.YtlddgfkdicgbeaaGreatDoorT2
namespace Go.Proofs.YtlddgfkdicgbeaaGreatDoor
open Go Go.Em
set_option maxRecDepth 100000
theorem r4_t (R : Rc) : ((rcT pg tb2 R 250).fn 144 [(.sl false [q3, q4]), I 0, I 2] .empty).map (fun p => p.1) = some (.ret ((.tup [(.agg [(.sl false [I 0, I 1, I 2]), (.sl false [q1, q2, q5]), I 0, I 2]), I 0]))) := by kernel_rfl
theorem r4 (m : Nat) : ((rc pg (m + 750)).fn 144 [(.sl false [q3, q4]), I 0, I 2] .empty).map (fun p => p.1) = some (.ret ((.tup [(.agg [(.sl false [I 0, I 1, I 2]), (.sl false [q1, q2, q5]), I 0, I 2]), I 0]))) := by
  have h := rcT_eq (pg := pg) (T := tb2) (b := m + 500) (fun n hn => tb2_ok n (by omega)) 250
  have e : m + 500 + 250 = m + 750 := by omega
  rw [e] at h
  rw [← h]
  exact r4_t _
end Go.Proofs.YtlddgfkdicgbeaaGreatDoor
