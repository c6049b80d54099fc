/- Rows of a table: closed calls. -/
import Derived.Test.YtlfknfknlcgfcaaGreatDoorEx
namespace Go.Proofs.YtlfknfknlcgfcaaGreatDoor
open Go Go.Em
set_option maxRecDepth 100000
theorem r30_t (R : Rc) : ((rcT pg tb0 R 80).fn 167 [(.agg [(.sl false [q3, q1, q4]), (.map [(I 1, B true), (I 2, B false), (I 3, B true)])])] .empty).map (fun p => p.1) = some (.ret (B false)) := by kernel_rfl
theorem r30 (m : Nat) : ((rc pg (m + 80)).fn 167 [(.agg [(.sl false [q3, q1, q4]), (.map [(I 1, B true), (I 2, B false), (I 3, B true)])])] .empty).map (fun p => p.1) = some (.ret (B false)) := by
  have h := rcT_eq (pg := pg) (T := tb0) (b := m + 0) (fun n hn => tb0_ok n (by omega)) 80
  have e : m + 0 + 80 = m + 80 := by omega
  rw [e] at h
  rw [← h]
  exact r30_t _
end Go.Proofs.YtlfknfknlcgfcaaGreatDoor
/- Rows of a table: closed calls. -/
namespace Go.Proofs.YtlfknfknlcgfcaaGreatDoor
open Go Go.Em
set_option maxRecDepth 100000
theorem r31_t (R : Rc) : ((rcT pg tb0 R 80).fn 167 [(.agg [(.sl false [q3, q1, q4]), (.map [(I 1, B false), (I 2, B true), (I 3, B true)])])] .empty).map (fun p => p.1) = some (.ret (B false)) := by kernel_rfl
theorem r31 (m : Nat) : ((rc pg (m + 80)).fn 167 [(.agg [(.sl false [q3, q1, q4]), (.map [(I 1, B false), (I 2, B true), (I 3, B true)])])] .empty).map (fun p => p.1) = some (.ret (B false)) := by
  have h := rcT_eq (pg := pg) (T := tb0) (b := m + 0) (fun n hn => tb0_ok n (by omega)) 80
  have e : m + 0 + 80 = m + 80 := by omega
  rw [e] at h
  rw [← h]
  exact r31_t _
end Go.Proofs.YtlfknfknlcgfcaaGreatDoor
/- Rows of a table: closed calls. -/
namespace Go.Proofs.YtlfknfknlcgfcaaGreatDoor
open Go Go.Em
set_option maxRecDepth 100000
theorem r1_t (R : Rc) : ((rcT pg tb0 R 80).fn 101 [q11] .empty).map (fun p => p.1) = some (.ret ((.sl false [I 0, I 5, I 6]))) := by kernel_rfl
theorem r1 (m : Nat) : ((rc pg (m + 80)).fn 101 [q11] .empty).map (fun p => p.1) = some (.ret ((.sl false [I 0, I 5, I 6]))) := by
  have h := rcT_eq (pg := pg) (T := tb0) (b := m + 0) (fun n hn => tb0_ok n (by omega)) 80
  have e : m + 0 + 80 = m + 80 := by omega
  rw [e] at h
  rw [← h]
  exact r1_t _
theorem r21_t (R : Rc) : ((rcT pg tb0 R 80).fn 176 [(.agg [(.sl false [I 0, I 5, I 6]), (.sl false [q6, q7, (.agg [I 1, B false, I 1, I 2, I 9]), (.agg [I 1, B true, I 2, I 1, I (-8)]), (.agg [I 2, B false, I 0, I 2, I 20]), (.agg [I 2, B true, I 2, I 0, I (-14)])])])] .empty).map (fun p => p.1) = some (.ret (.val (.slice none 0 0))) := by kernel_rfl
theorem r21 (m : Nat) : ((rc pg (m + 80)).fn 176 [(.agg [(.sl false [I 0, I 5, I 6]), (.sl false [q6, q7, (.agg [I 1, B false, I 1, I 2, I 9]), (.agg [I 1, B true, I 2, I 1, I (-8)]), (.agg [I 2, B false, I 0, I 2, I 20]), (.agg [I 2, B true, I 2, I 0, I (-14)])])])] .empty).map (fun p => p.1) = some (.ret (.val (.slice none 0 0))) := by
  have h := rcT_eq (pg := pg) (T := tb0) (b := m + 0) (fun n hn => tb0_ok n (by omega)) 80
  have e : m + 0 + 80 = m + 80 := by omega
  rw [e] at h
  rw [← h]
  exact r21_t _
theorem r6_t (R : Rc) : ((rcT pg tb0 R 80).fn 176 [(.agg [(.sl false [I 0, I 5, I 6]), (.sl false [q6, q7, (.agg [I 1, B false, I 1, I 2, I 3]), (.agg [I 1, B true, I 2, I 1, I (-3)])])])] .empty).map (fun p => p.1) = some (.ret (.val (.slice none 0 0))) := by kernel_rfl
theorem r6 (m : Nat) : ((rc pg (m + 80)).fn 176 [(.agg [(.sl false [I 0, I 5, I 6]), (.sl false [q6, q7, (.agg [I 1, B false, I 1, I 2, I 3]), (.agg [I 1, B true, I 2, I 1, I (-3)])])])] .empty).map (fun p => p.1) = some (.ret (.val (.slice none 0 0))) := by
  have h := rcT_eq (pg := pg) (T := tb0) (b := m + 0) (fun n hn => tb0_ok n (by omega)) 80
  have e : m + 0 + 80 = m + 80 := by omega
  rw [e] at h
  rw [← h]
  exact r6_t _
end Go.Proofs.YtlfknfknlcgfcaaGreatDoor
