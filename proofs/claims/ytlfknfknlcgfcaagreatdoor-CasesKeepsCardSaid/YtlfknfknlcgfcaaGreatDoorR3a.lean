/- Rows of a table: closed calls. -/
import Derived.Test.YtlfknfknlcgfcaaGreatDoorT2
namespace Go.Proofs.YtlfknfknlcgfcaaGreatDoor
open Go Go.Em
set_option maxRecDepth 100000
theorem r24_t (R : Rc) : ((rcT pg tb2 R 80).fn 180 [(.sl false [q3, q1, q5]), I 0, I 6] .empty).map (fun p => p.1) = some (.ret ((.tup [(.agg [(.sl false [I 0, I 5, I 6]), (.sl false [(.sl false [I 0, I 12, I 15]), (.sl false [I (-11), I 0, I 3]), (.sl false [I (-14), I (-3), I 0])]), I 0, I 2]), I 0]))) := by kernel_rfl
theorem r24 (m : Nat) : ((rc pg (m + 240)).fn 180 [(.sl false [q3, q1, q5]), I 0, I 6] .empty).map (fun p => p.1) = some (.ret ((.tup [(.agg [(.sl false [I 0, I 5, I 6]), (.sl false [(.sl false [I 0, I 12, I 15]), (.sl false [I (-11), I 0, I 3]), (.sl false [I (-14), I (-3), I 0])]), I 0, I 2]), I 0]))) := by
  have h := rcT_eq (pg := pg) (T := tb2) (b := m + 160) (fun n hn => tb2_ok n (by omega)) 80
  have e : m + 160 + 80 = m + 240 := by omega
  rw [e] at h
  rw [← h]
  exact r24_t _
end Go.Proofs.YtlfknfknlcgfcaaGreatDoor
/- Rows of a table: closed calls. -/
namespace Go.Proofs.YtlfknfknlcgfcaaGreatDoor
open Go Go.Em
set_option maxRecDepth 100000
theorem r23_t (R : Rc) : ((rcT pg tb2 R 80).fn 180 [(.sl false [q3, q1]), I 0, I 6] .empty).map (fun p => p.1) = some (.ret ((.tup [(.agg [(.sl false [I 0, I 5, I 6]), (.sl false [(.sl false [I 0, I 12, I 15]), (.sl false [I (-10), I 0, I 3]), (.sl false [I (-13), I (-3), I 0])]), I 0, I 2]), I 0]))) := by kernel_rfl
theorem r23 (m : Nat) : ((rc pg (m + 240)).fn 180 [(.sl false [q3, q1]), I 0, I 6] .empty).map (fun p => p.1) = some (.ret ((.tup [(.agg [(.sl false [I 0, I 5, I 6]), (.sl false [(.sl false [I 0, I 12, I 15]), (.sl false [I (-10), I 0, I 3]), (.sl false [I (-13), I (-3), I 0])]), I 0, I 2]), I 0]))) := by
  have h := rcT_eq (pg := pg) (T := tb2) (b := m + 160) (fun n hn => tb2_ok n (by omega)) 80
  have e : m + 160 + 80 = m + 240 := by omega
  rw [e] at h
  rw [← h]
  exact r23_t _
end Go.Proofs.YtlfknfknlcgfcaaGreatDoor
/- Rows of a table: closed calls. -/
namespace Go.Proofs.YtlfknfknlcgfcaaGreatDoor
open Go Go.Em
set_option maxRecDepth 100000
theorem r25_t (R : Rc) : ((rcT pg tb2 R 80).fn 180 [(.sl false [q3, q2]), I 0, I 6] .empty).map (fun p => p.1) = some (.ret ((.tup [(.agg [(.sl false [I 0, I 5, I 6]), (.sl false [(.sl false [I 0, I 12, I 21]), (.sl false [I (-10), I 0, I 9]), (.sl false [I (-18), I (-8), I 0])]), I 0, I 2]), I 0]))) := by kernel_rfl
theorem r25 (m : Nat) : ((rc pg (m + 240)).fn 180 [(.sl false [q3, q2]), I 0, I 6] .empty).map (fun p => p.1) = some (.ret ((.tup [(.agg [(.sl false [I 0, I 5, I 6]), (.sl false [(.sl false [I 0, I 12, I 21]), (.sl false [I (-10), I 0, I 9]), (.sl false [I (-18), I (-8), I 0])]), I 0, I 2]), I 0]))) := by
  have h := rcT_eq (pg := pg) (T := tb2) (b := m + 160) (fun n hn => tb2_ok n (by omega)) 80
  have e : m + 160 + 80 = m + 240 := by omega
  rw [e] at h
  rw [← h]
  exact r25_t _
end Go.Proofs.YtlfknfknlcgfcaaGreatDoor
/- Rows of a table: closed calls. -/
namespace Go.Proofs.YtlfknfknlcgfcaaGreatDoor
open Go Go.Em
set_option maxRecDepth 100000
theorem r10_t (R : Rc) : ((rcT pg tb2 R 80).fn 137 [(.sl false [q3, q1, q4])] .empty).map (fun p => p.1) = some (.ret ((.tup [(.sl false [(.agg [I 0, B false]), (.agg [I 1, B false]), (.agg [I 2, B true])]), I 0]))) := by kernel_rfl
theorem r10 (m : Nat) : ((rc pg (m + 240)).fn 137 [(.sl false [q3, q1, q4])] .empty).map (fun p => p.1) = some (.ret ((.tup [(.sl false [(.agg [I 0, B false]), (.agg [I 1, B false]), (.agg [I 2, B true])]), I 0]))) := by
  have h := rcT_eq (pg := pg) (T := tb2) (b := m + 160) (fun n hn => tb2_ok n (by omega)) 80
  have e : m + 160 + 80 = m + 240 := by omega
  rw [e] at h
  rw [← h]
  exact r10_t _
theorem r7_t (R : Rc) : ((rcT pg tb2 R 80).fn 137 [(.sl false [q3, q1])] .empty).map (fun p => p.1) = some (.ret ((.tup [(.sl false []), I 0]))) := by kernel_rfl
theorem r7 (m : Nat) : ((rc pg (m + 240)).fn 137 [(.sl false [q3, q1])] .empty).map (fun p => p.1) = some (.ret ((.tup [(.sl false []), I 0]))) := by
  have h := rcT_eq (pg := pg) (T := tb2) (b := m + 160) (fun n hn => tb2_ok n (by omega)) 80
  have e : m + 160 + 80 = m + 240 := by omega
  rw [e] at h
  rw [← h]
  exact r7_t _
end Go.Proofs.YtlfknfknlcgfcaaGreatDoor
/- Rows of a table: closed calls. -/
namespace Go.Proofs.YtlfknfknlcgfcaaGreatDoor
open Go Go.Em
set_option maxRecDepth 100000
theorem r13_t (R : Rc) : ((rcT pg tb2 R 80).fn 137 [(.sl false [q3, q1, q5])] .empty).map (fun p => p.1) = some (.ret ((.tup [(.sl false []), I 0]))) := by kernel_rfl
theorem r13 (m : Nat) : ((rc pg (m + 240)).fn 137 [(.sl false [q3, q1, q5])] .empty).map (fun p => p.1) = some (.ret ((.tup [(.sl false []), I 0]))) := by
  have h := rcT_eq (pg := pg) (T := tb2) (b := m + 160) (fun n hn => tb2_ok n (by omega)) 80
  have e : m + 160 + 80 = m + 240 := by omega
  rw [e] at h
  rw [← h]
  exact r13_t _
theorem r17_t (R : Rc) : ((rcT pg tb2 R 80).fn 137 [(.sl false [q3, q2])] .empty).map (fun p => p.1) = some (.ret ((.tup [(.sl false []), I 0]))) := by kernel_rfl
theorem r17 (m : Nat) : ((rc pg (m + 240)).fn 137 [(.sl false [q3, q2])] .empty).map (fun p => p.1) = some (.ret ((.tup [(.sl false []), I 0]))) := by
  have h := rcT_eq (pg := pg) (T := tb2) (b := m + 160) (fun n hn => tb2_ok n (by omega)) 80
  have e : m + 160 + 80 = m + 240 := by omega
  rw [e] at h
  rw [← h]
  exact r17_t _
end Go.Proofs.YtlfknfknlcgfcaaGreatDoor
