/- Rows of a table: closed calls. -/
import Derived.Test.YtkbamkdgiglljaaGreatT2
namespace Go.Proofs.YtkbamkdgiglljaaGreat
open Go Go.Em
set_option maxRecDepth 100000
theorem r24_t (R : Rc) : ((rcT pg tb2 R 100).fn 52 [(.agg [q8, (.sl false []), (.sl false []), (.sl false [])]), (.agg [(.sl false []), I 0, I 1]), q1] .empty).map (fun p => p.1) = some (.ret ((.tup [(.agg [q8, (.sl false [(U8 (0)), (U8 (0)), (U8 (0)), (U8 (20)), (U8 (199)), (U8 (121)), (U8 (236)), (U8 (39)), (U8 (0)), (U8 (0)), (U8 (0)), (U8 (0)), (U8 (0)), (U8 (1)), (U8 (0)), (U8 (0)), (U8 (0)), (U8 (5)), (U8 (0)), (U8 (0)), (U8 (0)), (U8 (0)), (U8 (0)), (U8 (0)), (U8 (0)), (U8 (0)), (U8 (0)), (U8 (0))]), (.sl false []), (.sl false [])]), (.agg [(.sl false [q1]), I 0, I 1]), I 0]))) := by kernel_rfl
theorem r24 (m : Nat) : ((rc pg (m + 300)).fn 52 [(.agg [q8, (.sl false []), (.sl false []), (.sl false [])]), (.agg [(.sl false []), I 0, I 1]), q1] .empty).map (fun p => p.1) = some (.ret ((.tup [(.agg [q8, (.sl false [(U8 (0)), (U8 (0)), (U8 (0)), (U8 (20)), (U8 (199)), (U8 (121)), (U8 (236)), (U8 (39)), (U8 (0)), (U8 (0)), (U8 (0)), (U8 (0)), (U8 (0)), (U8 (1)), (U8 (0)), (U8 (0)), (U8 (0)), (U8 (5)), (U8 (0)), (U8 (0)), (U8 (0)), (U8 (0)), (U8 (0)), (U8 (0)), (U8 (0)), (U8 (0)), (U8 (0)), (U8 (0))]), (.sl false []), (.sl false [])]), (.agg [(.sl false [q1]), I 0, I 1]), I 0]))) := by
  have h := rcT_eq (pg := pg) (T := tb2) (b := m + 200) (fun n hn => tb2_ok n (by omega)) 100
  have e : m + 200 + 100 = m + 300 := by omega
  rw [e] at h
  rw [← h]
  exact r24_t _
end Go.Proofs.YtkbamkdgiglljaaGreat
/- Rows of a table: closed calls. -/
namespace Go.Proofs.YtkbamkdgiglljaaGreat
open Go Go.Em
set_option maxRecDepth 100000
theorem r11_t (R : Rc) : ((rcT pg tb2 R 100).fn 68 [(.agg [q7, I 10]), q1] .empty).map (fun p => p.1) = some (.ret (B true)) := by kernel_rfl
theorem r11 (m : Nat) : ((rc pg (m + 300)).fn 68 [(.agg [q7, I 10]), q1] .empty).map (fun p => p.1) = some (.ret (B true)) := by
  have h := rcT_eq (pg := pg) (T := tb2) (b := m + 200) (fun n hn => tb2_ok n (by omega)) 100
  have e : m + 200 + 100 = m + 300 := by omega
  rw [e] at h
  rw [← h]
  exact r11_t _
theorem r6_t (R : Rc) : ((rcT pg tb2 R 100).fn 69 [(.agg [q7, I 9]), q1] .empty).map (fun p => p.1) = some (.ret (q2)) := by kernel_rfl
theorem r6 (m : Nat) : ((rc pg (m + 300)).fn 69 [(.agg [q7, I 9]), q1] .empty).map (fun p => p.1) = some (.ret (q2)) := by
  have h := rcT_eq (pg := pg) (T := tb2) (b := m + 200) (fun n hn => tb2_ok n (by omega)) 100
  have e : m + 200 + 100 = m + 300 := by omega
  rw [e] at h
  rw [← h]
  exact r6_t _
theorem r17_t (R : Rc) : ((rcT pg tb2 R 100).fn 69 [(.agg [q7, I 8]), q1] .empty).map (fun p => p.1) = some (.ret (q2)) := by kernel_rfl
theorem r17 (m : Nat) : ((rc pg (m + 300)).fn 69 [(.agg [q7, I 8]), q1] .empty).map (fun p => p.1) = some (.ret (q2)) := by
  have h := rcT_eq (pg := pg) (T := tb2) (b := m + 200) (fun n hn => tb2_ok n (by omega)) 100
  have e : m + 200 + 100 = m + 300 := by omega
  rw [e] at h
  rw [← h]
  exact r17_t _
end Go.Proofs.YtkbamkdgiglljaaGreat
