/- Rows of a table: closed calls. -/
import Derived.Test.YtlddgfkdicgbeaaGreatDoorEx
namespace Go.Proofs.YtlddgfkdicgbeaaGreatDoor
open Go Go.Em
set_option maxRecDepth 100000
theorem r2_t (R : Rc) : ((rcT pg tb0 R 250).fn 65 [q7] .empty).map (fun p => p.1) = some (.ret ((.sl false [I 0, I 1, I 2]))) := by kernel_rfl
theorem r2 (m : Nat) : ((rc pg (m + 250)).fn 65 [q7] .empty).map (fun p => p.1) = some (.ret ((.sl false [I 0, I 1, I 2]))) := by
  have h := rcT_eq (pg := pg) (T := tb0) (b := m + 0) (fun n hn => tb0_ok n (by omega)) 250
  have e : m + 0 + 250 = m + 250 := by omega
  rw [e] at h
  rw [← h]
  exact r2_t _
theorem r0_t (R : Rc) : ((rcT pg tb0 R 250).fn 125 [(.sl false [q3, q4])] .empty).map (fun p => p.1) = some (.ret ((.sl false [I 0, I 1, I 2]))) := by kernel_rfl
theorem r0 (m : Nat) : ((rc pg (m + 250)).fn 125 [(.sl false [q3, q4])] .empty).map (fun p => p.1) = some (.ret ((.sl false [I 0, I 1, I 2]))) := by
  have h := rcT_eq (pg := pg) (T := tb0) (b := m + 0) (fun n hn => tb0_ok n (by omega)) 250
  have e : m + 0 + 250 = m + 250 := by omega
  rw [e] at h
  rw [← h]
  exact r0_t _
end Go.Proofs.YtlddgfkdicgbeaaGreatDoor
