/- Rows of a table: closed calls. -/
import Derived.Test.YtlfknfknlcgfcaaGreatDoorEx
namespace Go.Proofs.YtlfknfknlcgfcaaGreatDoor
open Go Go.Em
set_option maxRecDepth 100000
theorem r8_t (R : Rc) : ((rcT pg tb0 R 80).fn 174 [(.sl false [q3, q1, q4])] .empty).map (fun p => p.1) = some (.ret ((.sl false [I 0, I 5, I 6]))) := by kernel_rfl
theorem r8 (m : Nat) : ((rc pg (m + 80)).fn 174 [(.sl false [q3, q1, q4])] .empty).map (fun p => p.1) = some (.ret ((.sl false [I 0, I 5, I 6]))) := by
  have h := rcT_eq (pg := pg) (T := tb0) (b := m + 0) (fun n hn => tb0_ok n (by omega)) 80
  have e : m + 0 + 80 = m + 80 := by omega
  rw [e] at h
  rw [← h]
  exact r8_t _
theorem r11_t (R : Rc) : ((rcT pg tb0 R 80).fn 174 [(.sl false [q3, q1, q5])] .empty).map (fun p => p.1) = some (.ret ((.sl false [I 0, I 5, I 6]))) := by kernel_rfl
theorem r11 (m : Nat) : ((rc pg (m + 80)).fn 174 [(.sl false [q3, q1, q5])] .empty).map (fun p => p.1) = some (.ret ((.sl false [I 0, I 5, I 6]))) := by
  have h := rcT_eq (pg := pg) (T := tb0) (b := m + 0) (fun n hn => tb0_ok n (by omega)) 80
  have e : m + 0 + 80 = m + 80 := by omega
  rw [e] at h
  rw [← h]
  exact r11_t _
end Go.Proofs.YtlfknfknlcgfcaaGreatDoor
/- Rows of a table: closed calls. -/
namespace Go.Proofs.YtlfknfknlcgfcaaGreatDoor
open Go Go.Em
set_option maxRecDepth 100000
theorem r18_t (R : Rc) : ((rcT pg tb0 R 80).fn 174 [(.sl false [q3, q2, q4])] .empty).map (fun p => p.1) = some (.ret ((.sl false [I 0, I 5, I 6]))) := by kernel_rfl
theorem r18 (m : Nat) : ((rc pg (m + 80)).fn 174 [(.sl false [q3, q2, q4])] .empty).map (fun p => p.1) = some (.ret ((.sl false [I 0, I 5, I 6]))) := by
  have h := rcT_eq (pg := pg) (T := tb0) (b := m + 0) (fun n hn => tb0_ok n (by omega)) 80
  have e : m + 0 + 80 = m + 80 := by omega
  rw [e] at h
  rw [← h]
  exact r18_t _
theorem r20_t (R : Rc) : ((rcT pg tb0 R 80).fn 174 [(.sl false [q3, q2, q5])] .empty).map (fun p => p.1) = some (.ret ((.sl false [I 0, I 5, I 6]))) := by kernel_rfl
theorem r20 (m : Nat) : ((rc pg (m + 80)).fn 174 [(.sl false [q3, q2, q5])] .empty).map (fun p => p.1) = some (.ret ((.sl false [I 0, I 5, I 6]))) := by
  have h := rcT_eq (pg := pg) (T := tb0) (b := m + 0) (fun n hn => tb0_ok n (by omega)) 80
  have e : m + 0 + 80 = m + 80 := by omega
  rw [e] at h
  rw [← h]
  exact r20_t _
end Go.Proofs.YtlfknfknlcgfcaaGreatDoor
/- Rows of a table: closed calls. -/
namespace Go.Proofs.YtlfknfknlcgfcaaGreatDoor
open Go Go.Em
set_option maxRecDepth 100000
theorem r4_t (R : Rc) : ((rcT pg tb0 R 80).fn 174 [(.sl false [q3, q1])] .empty).map (fun p => p.1) = some (.ret ((.sl false [I 0, I 5, I 6]))) := by kernel_rfl
theorem r4 (m : Nat) : ((rc pg (m + 80)).fn 174 [(.sl false [q3, q1])] .empty).map (fun p => p.1) = some (.ret ((.sl false [I 0, I 5, I 6]))) := by
  have h := rcT_eq (pg := pg) (T := tb0) (b := m + 0) (fun n hn => tb0_ok n (by omega)) 80
  have e : m + 0 + 80 = m + 80 := by omega
  rw [e] at h
  rw [← h]
  exact r4_t _
theorem r14_t (R : Rc) : ((rcT pg tb0 R 80).fn 174 [(.sl false [q3, q2])] .empty).map (fun p => p.1) = some (.ret ((.sl false [I 0, I 5, I 6]))) := by kernel_rfl
theorem r14 (m : Nat) : ((rc pg (m + 80)).fn 174 [(.sl false [q3, q2])] .empty).map (fun p => p.1) = some (.ret ((.sl false [I 0, I 5, I 6]))) := by
  have h := rcT_eq (pg := pg) (T := tb0) (b := m + 0) (fun n hn => tb0_ok n (by omega)) 80
  have e : m + 0 + 80 = m + 80 := by omega
  rw [e] at h
  rw [← h]
  exact r14_t _
end Go.Proofs.YtlfknfknlcgfcaaGreatDoor
/- Rows of a table: closed calls. -/
namespace Go.Proofs.YtlfknfknlcgfcaaGreatDoor
open Go Go.Em
set_option maxRecDepth 100000
theorem r0_t (R : Rc) : ((rcT pg tb0 R 80).fn 174 [(.sl false [q3])] .empty).map (fun p => p.1) = some (.ret ((.sl false [I 0, I 5]))) := by kernel_rfl
theorem r0 (m : Nat) : ((rc pg (m + 80)).fn 174 [(.sl false [q3])] .empty).map (fun p => p.1) = some (.ret ((.sl false [I 0, I 5]))) := by
  have h := rcT_eq (pg := pg) (T := tb0) (b := m + 0) (fun n hn => tb0_ok n (by omega)) 80
  have e : m + 0 + 80 = m + 80 := by omega
  rw [e] at h
  rw [← h]
  exact r0_t _
theorem r16_t (R : Rc) : ((rcT pg tb0 R 80).fn 176 [(.agg [(.sl false [I 0, I 5, I 6]), (.sl false [q6, q7, (.agg [I 1, B false, I 1, I 2, I 9]), (.agg [I 1, B true, I 2, I 1, I (-8)])])])] .empty).map (fun p => p.1) = some (.ret (.val (.slice none 0 0))) := by kernel_rfl
theorem r16 (m : Nat) : ((rc pg (m + 80)).fn 176 [(.agg [(.sl false [I 0, I 5, I 6]), (.sl false [q6, q7, (.agg [I 1, B false, I 1, I 2, I 9]), (.agg [I 1, B true, I 2, I 1, I (-8)])])])] .empty).map (fun p => p.1) = some (.ret (.val (.slice none 0 0))) := by
  have h := rcT_eq (pg := pg) (T := tb0) (b := m + 0) (fun n hn => tb0_ok n (by omega)) 80
  have e : m + 0 + 80 = m + 80 := by omega
  rw [e] at h
  rw [← h]
  exact r16_t _
end Go.Proofs.YtlfknfknlcgfcaaGreatDoor
