/- Rows of a table: closed calls. -/
import Derived.Test.YtlddgfkdicgbeaaGreatDoorT3
namespace Go.Proofs.YtlddgfkdicgbeaaGreatDoor
open Go Go.Em
set_option maxRecDepth 100000
theorem r9_t (R : Rc) : ((rcT pg tb3 R 250).fn 37 [q7, (.sl false [q6, (.agg [I 2, I 0, I 1, I 9, I 9])]), I 0, (.agg [I 14, I 15])] .empty).map (fun p => p.1) = some (.ret ((.tup [I 0, I 2, I 0]))) := by kernel_rfl
theorem r9 (m : Nat) : ((rc pg (m + 1000)).fn 37 [q7, (.sl false [q6, (.agg [I 2, I 0, I 1, I 9, I 9])]), I 0, (.agg [I 14, I 15])] .empty).map (fun p => p.1) = some (.ret ((.tup [I 0, I 2, I 0]))) := by
  have h := rcT_eq (pg := pg) (T := tb3) (b := m + 750) (fun n hn => tb3_ok n (by omega)) 250
  have e : m + 750 + 250 = m + 1000 := by omega
  rw [e] at h
  rw [← h]
  exact r9_t _
end Go.Proofs.YtlddgfkdicgbeaaGreatDoor
/- Rows of a table: closed calls. -/
namespace Go.Proofs.YtlddgfkdicgbeaaGreatDoor
open Go Go.Em
set_option maxRecDepth 100000
theorem r7_t (R : Rc) : ((rcT pg tb3 R 250).fn 46 [q7, q6, (.agg [I 2, I 0, I 1, I 9, I 9])] .empty).map (fun p => p.1) = some (.ret ((.tup [(.sl false [(.agg [I (-1), I 0])]), I 0]))) := by kernel_rfl
theorem r7 (m : Nat) : ((rc pg (m + 1000)).fn 46 [q7, q6, (.agg [I 2, I 0, I 1, I 9, I 9])] .empty).map (fun p => p.1) = some (.ret ((.tup [(.sl false [(.agg [I (-1), I 0])]), I 0]))) := by
  have h := rcT_eq (pg := pg) (T := tb3) (b := m + 750) (fun n hn => tb3_ok n (by omega)) 250
  have e : m + 750 + 250 = m + 1000 := by omega
  rw [e] at h
  rw [← h]
  exact r7_t _
end Go.Proofs.YtlddgfkdicgbeaaGreatDoor
/- Rows of a table: closed calls. -/
namespace Go.Proofs.YtlddgfkdicgbeaaGreatDoor
open Go Go.Em
set_option maxRecDepth 100000
theorem r5_t (R : Rc) : ((rcT pg tb3 R 250).fn 35 [q7, q6, I 0] .empty).map (fun p => p.1) = some (.ret ((.tup [(.sl false [(.agg [I 14, I 17])]), I 0]))) := by kernel_rfl
theorem r5 (m : Nat) : ((rc pg (m + 1000)).fn 35 [q7, q6, I 0] .empty).map (fun p => p.1) = some (.ret ((.tup [(.sl false [(.agg [I 14, I 17])]), I 0]))) := by
  have h := rcT_eq (pg := pg) (T := tb3) (b := m + 750) (fun n hn => tb3_ok n (by omega)) 250
  have e : m + 750 + 250 = m + 1000 := by omega
  rw [e] at h
  rw [← h]
  exact r5_t _
end Go.Proofs.YtlddgfkdicgbeaaGreatDoor
