/- Rows of a table: closed calls. -/
import Derived.Test.YtlfknfknlcgfcaaGreatDoorT1
namespace Go.Proofs.YtlfknfknlcgfcaaGreatDoor
open Go Go.Em
set_option maxRecDepth 100000
theorem r29_t (R : Rc) : ((rcT pg tb1 R 80).fn 167 [(.agg [(.sl false [q3, q1, q4]), (.map [(I 1, B true), (I 2, B true), (I 3, B true)])])] .empty).map (fun p => p.1) = some (.ret (B true)) := by kernel_rfl
theorem r29 (m : Nat) : ((rc pg (m + 160)).fn 167 [(.agg [(.sl false [q3, q1, q4]), (.map [(I 1, B true), (I 2, B true), (I 3, B true)])])] .empty).map (fun p => p.1) = some (.ret (B true)) := by
  have h := rcT_eq (pg := pg) (T := tb1) (b := m + 80) (fun n hn => tb1_ok n (by omega)) 80
  have e : m + 80 + 80 = m + 160 := by omega
  rw [e] at h
  rw [← h]
  exact r29_t _
theorem r3_t (R : Rc) : ((rcT pg tb1 R 80).fn 137 [(.sl false [q3])] .empty).map (fun p => p.1) = some (.ret ((.tup [(.sl false []), I 0]))) := by kernel_rfl
theorem r3 (m : Nat) : ((rc pg (m + 160)).fn 137 [(.sl false [q3])] .empty).map (fun p => p.1) = some (.ret ((.tup [(.sl false []), I 0]))) := by
  have h := rcT_eq (pg := pg) (T := tb1) (b := m + 80) (fun n hn => tb1_ok n (by omega)) 80
  have e : m + 80 + 80 = m + 160 := by omega
  rw [e] at h
  rw [← h]
  exact r3_t _
theorem r15_t (R : Rc) : ((rcT pg tb1 R 80).fn 127 [(.sl false [q3, q2])] .empty).map (fun p => p.1) = some (.ret (I 0)) := by kernel_rfl
theorem r15 (m : Nat) : ((rc pg (m + 160)).fn 127 [(.sl false [q3, q2])] .empty).map (fun p => p.1) = some (.ret (I 0)) := by
  have h := rcT_eq (pg := pg) (T := tb1) (b := m + 80) (fun n hn => tb1_ok n (by omega)) 80
  have e : m + 80 + 80 = m + 160 := by omega
  rw [e] at h
  rw [← h]
  exact r15_t _
end Go.Proofs.YtlfknfknlcgfcaaGreatDoor
/- Rows of a table: closed calls. -/
namespace Go.Proofs.YtlfknfknlcgfcaaGreatDoor
open Go Go.Em
set_option maxRecDepth 100000
theorem r22_t (R : Rc) : ((rcT pg tb1 R 80).fn 137 [(.sl false [q3, q2, q5])] .empty).map (fun p => p.1) = some (.ret ((.tup [(.sl false []), I 0]))) := by kernel_rfl
theorem r22 (m : Nat) : ((rc pg (m + 160)).fn 137 [(.sl false [q3, q2, q5])] .empty).map (fun p => p.1) = some (.ret ((.tup [(.sl false []), I 0]))) := by
  have h := rcT_eq (pg := pg) (T := tb1) (b := m + 80) (fun n hn => tb1_ok n (by omega)) 80
  have e : m + 80 + 80 = m + 160 := by omega
  rw [e] at h
  rw [← h]
  exact r22_t _
theorem r2_t (R : Rc) : ((rcT pg tb1 R 80).fn 57 [q11] .empty).map (fun p => p.1) = some (.ret (I 0)) := by kernel_rfl
theorem r2 (m : Nat) : ((rc pg (m + 160)).fn 57 [q11] .empty).map (fun p => p.1) = some (.ret (I 0)) := by
  have h := rcT_eq (pg := pg) (T := tb1) (b := m + 80) (fun n hn => tb1_ok n (by omega)) 80
  have e : m + 80 + 80 = m + 160 := by omega
  rw [e] at h
  rw [← h]
  exact r2_t _
end Go.Proofs.YtlfknfknlcgfcaaGreatDoor
/- Rows of a table: closed calls. -/
namespace Go.Proofs.YtlfknfknlcgfcaaGreatDoor
open Go Go.Em
set_option maxRecDepth 100000
theorem r12_t (R : Rc) : ((rcT pg tb1 R 80).fn 127 [(.sl false [q3, q1, q5])] .empty).map (fun p => p.1) = some (.ret (I 0)) := by kernel_rfl
theorem r12 (m : Nat) : ((rc pg (m + 160)).fn 127 [(.sl false [q3, q1, q5])] .empty).map (fun p => p.1) = some (.ret (I 0)) := by
  have h := rcT_eq (pg := pg) (T := tb1) (b := m + 80) (fun n hn => tb1_ok n (by omega)) 80
  have e : m + 80 + 80 = m + 160 := by omega
  rw [e] at h
  rw [← h]
  exact r12_t _
end Go.Proofs.YtlfknfknlcgfcaaGreatDoor
