/- Rows of a table: closed calls. -/
import Derived.Test.YtlddgfkdicgbeaaGreatDoorT1
namespace Go.Proofs.YtlddgfkdicgbeaaGreatDoor
open Go Go.Em
set_option maxRecDepth 100000
theorem r1_t (R : Rc) : ((rcT pg tb1 R 250).fn 90 [(.sl false [q3, q4])] .empty).map (fun p => p.1) = some (.ret (I 0)) := by kernel_rfl
theorem r1 (m : Nat) : ((rc pg (m + 500)).fn 90 [(.sl false [q3, q4])] .empty).map (fun p => p.1) = some (.ret (I 0)) := by
  have h := rcT_eq (pg := pg) (T := tb1) (b := m + 250) (fun n hn => tb1_ok n (by omega)) 250
  have e : m + 250 + 250 = m + 500 := by omega
  rw [e] at h
  rw [← h]
  exact r1_t _
end Go.Proofs.YtlddgfkdicgbeaaGreatDoor
