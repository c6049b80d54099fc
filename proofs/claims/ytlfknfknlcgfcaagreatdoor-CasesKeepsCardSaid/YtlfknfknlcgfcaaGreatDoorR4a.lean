/- Rows of a table: closed calls. -/
import Derived.Test.YtlfknfknlcgfcaaGreatDoorT3
namespace Go.Proofs.YtlfknfknlcgfcaaGreatDoor
open Go Go.Em
set_option maxRecDepth 100000
theorem r28_t (R : Rc) : ((rcT pg tb3 R 80).fn 39 [q11, (.sl false [I 5, I 1])] .empty).map (fun p => p.1) = some (.ret ((.tup [(.sl false [I 0, I 2]), (.sl false [(.agg [I 0, I 0]), (.agg [I 5, I 12]), (.agg [I 6, I 15])]), I 0]))) := by kernel_rfl
theorem r28 (m : Nat) : ((rc pg (m + 320)).fn 39 [q11, (.sl false [I 5, I 1])] .empty).map (fun p => p.1) = some (.ret ((.tup [(.sl false [I 0, I 2]), (.sl false [(.agg [I 0, I 0]), (.agg [I 5, I 12]), (.agg [I 6, I 15])]), I 0]))) := by
  have h := rcT_eq (pg := pg) (T := tb3) (b := m + 240) (fun n hn => tb3_ok n (by omega)) 80
  have e : m + 240 + 80 = m + 320 := by omega
  rw [e] at h
  rw [← h]
  exact r28_t _
end Go.Proofs.YtlfknfknlcgfcaaGreatDoor
/- Rows of a table: closed calls. -/
namespace Go.Proofs.YtlfknfknlcgfcaaGreatDoor
open Go Go.Em
set_option maxRecDepth 100000
theorem r27_t (R : Rc) : ((rcT pg tb3 R 80).fn 32 [q11, I 0, I 6] .empty).map (fun p => p.1) = some (.ret ((.tup [(.sl false [(.agg [I 13, I 15]), (.agg [I 18, I 21])]), I 0]))) := by kernel_rfl
theorem r27 (m : Nat) : ((rc pg (m + 320)).fn 32 [q11, I 0, I 6] .empty).map (fun p => p.1) = some (.ret ((.tup [(.sl false [(.agg [I 13, I 15]), (.agg [I 18, I 21])]), I 0]))) := by
  have h := rcT_eq (pg := pg) (T := tb3) (b := m + 240) (fun n hn => tb3_ok n (by omega)) 80
  have e : m + 240 + 80 = m + 320 := by omega
  rw [e] at h
  rw [← h]
  exact r27_t _
end Go.Proofs.YtlfknfknlcgfcaaGreatDoor
