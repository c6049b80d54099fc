/- Rows of a table: closed calls. -/
import Derived.Test.YtkbamkdgiglljaaGreatEx
namespace Go.Proofs.YtkbamkdgiglljaaGreat
open Go Go.Em
set_option maxRecDepth 100000
theorem r23_t (R : Rc) : ((rcT pg tb0 R 100).fn 16 [(.sl false [(U8 (0)), (U8 (0)), (U8 (0)), (U8 (0)), (U8 (0)), (U8 (1)), (U8 (0)), (U8 (0)), (U8 (0)), (U8 (5)), (U8 (0)), (U8 (0)), (U8 (0)), (U8 (0)), (U8 (0)), (U8 (0)), (U8 (0)), (U8 (0)), (U8 (0)), (U8 (0))])] .empty).map (fun p => p.1) = some (.ret ((U4 (3346656295)))) := by kernel_rfl
theorem r23 (m : Nat) : ((rc pg (m + 100)).fn 16 [(.sl false [(U8 (0)), (U8 (0)), (U8 (0)), (U8 (0)), (U8 (0)), (U8 (1)), (U8 (0)), (U8 (0)), (U8 (0)), (U8 (5)), (U8 (0)), (U8 (0)), (U8 (0)), (U8 (0)), (U8 (0)), (U8 (0)), (U8 (0)), (U8 (0)), (U8 (0)), (U8 (0))])] .empty).map (fun p => p.1) = some (.ret ((U4 (3346656295)))) := by
  have h := rcT_eq (pg := pg) (T := tb0) (b := m + 0) (fun n hn => tb0_ok n (by omega)) 100
  have e : m + 0 + 100 = m + 100 := by omega
  rw [e] at h
  rw [← h]
  exact r23_t _
end Go.Proofs.YtkbamkdgiglljaaGreat
/- Rows of a table: closed calls. -/
namespace Go.Proofs.YtkbamkdgiglljaaGreat
open Go Go.Em
set_option maxRecDepth 100000
theorem r20_t (R : Rc) : ((rcT pg tb0 R 100).fn 16 [(.sl false [(U8 (103)), (U8 (121)), (U8 (116)), (U8 (116)), (U8 (106)), (U8 (97)), (U8 (0)), (U8 (0)), (U8 (0)), (U8 (1))])] .empty).map (fun p => p.1) = some (.ret ((U4 (3333827572)))) := by kernel_rfl
theorem r20 (m : Nat) : ((rc pg (m + 100)).fn 16 [(.sl false [(U8 (103)), (U8 (121)), (U8 (116)), (U8 (116)), (U8 (106)), (U8 (97)), (U8 (0)), (U8 (0)), (U8 (0)), (U8 (1))])] .empty).map (fun p => p.1) = some (.ret ((U4 (3333827572)))) := by
  have h := rcT_eq (pg := pg) (T := tb0) (b := m + 0) (fun n hn => tb0_ok n (by omega)) 100
  have e : m + 0 + 100 = m + 100 := by omega
  rw [e] at h
  rw [← h]
  exact r20_t _
theorem r4_t (R : Rc) : ((rcT pg tb0 R 100).fn 87 [(.agg [q7, I 9]), q2, (.sl false [I 7])] .empty).map (fun p => p.1) = some (.ret ((.sl false []))) := by kernel_rfl
theorem r4 (m : Nat) : ((rc pg (m + 100)).fn 87 [(.agg [q7, I 9]), q2, (.sl false [I 7])] .empty).map (fun p => p.1) = some (.ret ((.sl false []))) := by
  have h := rcT_eq (pg := pg) (T := tb0) (b := m + 0) (fun n hn => tb0_ok n (by omega)) 100
  have e : m + 0 + 100 = m + 100 := by omega
  rw [e] at h
  rw [← h]
  exact r4_t _
end Go.Proofs.YtkbamkdgiglljaaGreat
/- Rows of a table: closed calls. -/
namespace Go.Proofs.YtkbamkdgiglljaaGreat
open Go Go.Em
set_option maxRecDepth 100000
theorem r26_t (R : Rc) : ((rcT pg tb0 R 100).fn 16 [(.sl false [(U8 (49)), (U8 (50)), (U8 (51)), (U8 (52)), (U8 (53)), (U8 (54)), (U8 (55)), (U8 (56)), (U8 (57))])] .empty).map (fun p => p.1) = some (.ret ((U4 (3421780262)))) := by kernel_rfl
theorem r26 (m : Nat) : ((rc pg (m + 100)).fn 16 [(.sl false [(U8 (49)), (U8 (50)), (U8 (51)), (U8 (52)), (U8 (53)), (U8 (54)), (U8 (55)), (U8 (56)), (U8 (57))])] .empty).map (fun p => p.1) = some (.ret ((U4 (3421780262)))) := by
  have h := rcT_eq (pg := pg) (T := tb0) (b := m + 0) (fun n hn => tb0_ok n (by omega)) 100
  have e : m + 0 + 100 = m + 100 := by omega
  rw [e] at h
  rw [← h]
  exact r26_t _
theorem r5_t (R : Rc) : ((rcT pg tb0 R 100).fn 87 [(.agg [q7, I 9]), q2, (.sl false [I 6])] .empty).map (fun p => p.1) = some (.ret ((.sl false []))) := by kernel_rfl
theorem r5 (m : Nat) : ((rc pg (m + 100)).fn 87 [(.agg [q7, I 9]), q2, (.sl false [I 6])] .empty).map (fun p => p.1) = some (.ret ((.sl false []))) := by
  have h := rcT_eq (pg := pg) (T := tb0) (b := m + 0) (fun n hn => tb0_ok n (by omega)) 100
  have e : m + 0 + 100 = m + 100 := by omega
  rw [e] at h
  rw [← h]
  exact r5_t _
theorem r0_t (R : Rc) : ((rcT pg tb0 R 100).fn 13 [q1] .empty).map (fun p => p.1) = some (.ret (I 0)) := by kernel_rfl
theorem r0 (m : Nat) : ((rc pg (m + 100)).fn 13 [q1] .empty).map (fun p => p.1) = some (.ret (I 0)) := by
  have h := rcT_eq (pg := pg) (T := tb0) (b := m + 0) (fun n hn => tb0_ok n (by omega)) 100
  have e : m + 0 + 100 = m + 100 := by omega
  rw [e] at h
  rw [← h]
  exact r0_t _
end Go.Proofs.YtkbamkdgiglljaaGreat
