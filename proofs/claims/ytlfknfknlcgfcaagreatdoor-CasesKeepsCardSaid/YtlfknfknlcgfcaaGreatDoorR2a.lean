/- Rows of a table: closed calls. -/
import Derived.Test.YtlfknfknlcgfcaaGreatDoorT1
namespace Go.Proofs.YtlfknfknlcgfcaaGreatDoor
open Go Go.Em
set_option maxRecDepth 100000
theorem r26_t (R : Rc) : ((rcT pg tb1 R 80).fn 180 [(.sl false [q3, q2, q5]), I 0, I 6] .empty).map (fun p => p.1) = some (.ret ((.tup [(.agg [(.sl false [I 0, I 5, I 6]), (.sl false [(.sl false [I 0, I 12, I 20]), (.sl false [I (-10), I 0, I 9]), (.sl false [I (-18), I (-8), I 0])]), I 0, I 2]), I 0]))) := by kernel_rfl
theorem r26 (m : Nat) : ((rc pg (m + 160)).fn 180 [(.sl false [q3, q2, q5]), I 0, I 6] .empty).map (fun p => p.1) = some (.ret ((.tup [(.agg [(.sl false [I 0, I 5, I 6]), (.sl false [(.sl false [I 0, I 12, I 20]), (.sl false [I (-10), I 0, I 9]), (.sl false [I (-18), I (-8), I 0])]), I 0, I 2]), I 0]))) := by
  have h := rcT_eq (pg := pg) (T := tb1) (b := m + 80) (fun n hn => tb1_ok n (by omega)) 80
  have e : m + 80 + 80 = m + 160 := by omega
  rw [e] at h
  rw [← h]
  exact r26_t _
end Go.Proofs.YtlfknfknlcgfcaaGreatDoor
/- Rows of a table: closed calls. -/
namespace Go.Proofs.YtlfknfknlcgfcaaGreatDoor
open Go Go.Em
set_option maxRecDepth 100000
theorem r19_t (R : Rc) : ((rcT pg tb1 R 80).fn 137 [(.sl false [q3, q2, q4])] .empty).map (fun p => p.1) = some (.ret ((.tup [(.sl false [(.agg [I 0, B false]), (.agg [I 1, B false]), (.agg [I 2, B true])]), I 0]))) := by kernel_rfl
theorem r19 (m : Nat) : ((rc pg (m + 160)).fn 137 [(.sl false [q3, q2, q4])] .empty).map (fun p => p.1) = some (.ret ((.tup [(.sl false [(.agg [I 0, B false]), (.agg [I 1, B false]), (.agg [I 2, B true])]), I 0]))) := by
  have h := rcT_eq (pg := pg) (T := tb1) (b := m + 80) (fun n hn => tb1_ok n (by omega)) 80
  have e : m + 80 + 80 = m + 160 := by omega
  rw [e] at h
  rw [← h]
  exact r19_t _
theorem r9_t (R : Rc) : ((rcT pg tb1 R 80).fn 127 [(.sl false [q3, q1, q4])] .empty).map (fun p => p.1) = some (.ret (I 0)) := by kernel_rfl
theorem r9 (m : Nat) : ((rc pg (m + 160)).fn 127 [(.sl false [q3, q1, q4])] .empty).map (fun p => p.1) = some (.ret (I 0)) := by
  have h := rcT_eq (pg := pg) (T := tb1) (b := m + 80) (fun n hn => tb1_ok n (by omega)) 80
  have e : m + 80 + 80 = m + 160 := by omega
  rw [e] at h
  rw [← h]
  exact r9_t _
theorem r5_t (R : Rc) : ((rcT pg tb1 R 80).fn 127 [(.sl false [q3, q1])] .empty).map (fun p => p.1) = some (.ret (I 0)) := by kernel_rfl
theorem r5 (m : Nat) : ((rc pg (m + 160)).fn 127 [(.sl false [q3, q1])] .empty).map (fun p => p.1) = some (.ret (I 0)) := by
  have h := rcT_eq (pg := pg) (T := tb1) (b := m + 80) (fun n hn => tb1_ok n (by omega)) 80
  have e : m + 80 + 80 = m + 160 := by omega
  rw [e] at h
  rw [← h]
  exact r5_t _
end Go.Proofs.YtlfknfknlcgfcaaGreatDoor
