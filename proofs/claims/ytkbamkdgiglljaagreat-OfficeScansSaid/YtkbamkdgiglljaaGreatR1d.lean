/- Rows of a table: closed calls. -/
import Derived.Test.YtkbamkdgiglljaaGreatEx
namespace Go.Proofs.YtkbamkdgiglljaaGreat
open Go Go.Em
set_option maxRecDepth 100000
theorem r7_t (R : Rc) : ((rcT pg tb0 R 100).fn 85 [(.agg [q7, I 9]), q2] .empty).map (fun p => p.1) = some (.ret (B false)) := by kernel_rfl
theorem r7 (m : Nat) : ((rc pg (m + 100)).fn 85 [(.agg [q7, I 9]), q2] .empty).map (fun p => p.1) = some (.ret (B false)) := by
  have h := rcT_eq (pg := pg) (T := tb0) (b := m + 0) (fun n hn => tb0_ok n (by omega)) 100
  have e : m + 0 + 100 = m + 100 := by omega
  rw [e] at h
  rw [← h]
  exact r7_t _
theorem r18_t (R : Rc) : ((rcT pg tb0 R 100).fn 87 [(.agg [q7, I 8]), q2, (.sl false [I 8, I 9])] .empty).map (fun p => p.1) = some (.ret ((.sl false [q4]))) := by kernel_rfl
theorem r18 (m : Nat) : ((rc pg (m + 100)).fn 87 [(.agg [q7, I 8]), q2, (.sl false [I 8, I 9])] .empty).map (fun p => p.1) = some (.ret ((.sl false [q4]))) := by
  have h := rcT_eq (pg := pg) (T := tb0) (b := m + 0) (fun n hn => tb0_ok n (by omega)) 100
  have e : m + 0 + 100 = m + 100 := by omega
  rw [e] at h
  rw [← h]
  exact r18_t _
theorem r25_t (R : Rc) : ((rcT pg tb0 R 100).fn 53 [(.sl false [I 2]), (.sl false [I 2])] .empty).map (fun p => p.1) = some (.ret (B true)) := by kernel_rfl
theorem r25 (m : Nat) : ((rc pg (m + 100)).fn 53 [(.sl false [I 2]), (.sl false [I 2])] .empty).map (fun p => p.1) = some (.ret (B true)) := by
  have h := rcT_eq (pg := pg) (T := tb0) (b := m + 0) (fun n hn => tb0_ok n (by omega)) 100
  have e : m + 0 + 100 = m + 100 := by omega
  rw [e] at h
  rw [← h]
  exact r25_t _
end Go.Proofs.YtkbamkdgiglljaaGreat
/- Rows of a table: closed calls. -/
namespace Go.Proofs.YtkbamkdgiglljaaGreat
open Go Go.Em
set_option maxRecDepth 100000
theorem r10_t (R : Rc) : ((rcT pg tb0 R 100).fn 87 [(.agg [q7, I 10]), q2, (.sl false [I 7])] .empty).map (fun p => p.1) = some (.ret ((.sl false [q6]))) := by kernel_rfl
theorem r10 (m : Nat) : ((rc pg (m + 100)).fn 87 [(.agg [q7, I 10]), q2, (.sl false [I 7])] .empty).map (fun p => p.1) = some (.ret ((.sl false [q6]))) := by
  have h := rcT_eq (pg := pg) (T := tb0) (b := m + 0) (fun n hn => tb0_ok n (by omega)) 100
  have e : m + 0 + 100 = m + 100 := by omega
  rw [e] at h
  rw [← h]
  exact r10_t _
theorem r13_t (R : Rc) : ((rcT pg tb0 R 100).fn 87 [(.agg [q7, I 8]), q1, (.sl false [I 7])] .empty).map (fun p => p.1) = some (.ret ((.sl false []))) := by kernel_rfl
theorem r13 (m : Nat) : ((rc pg (m + 100)).fn 87 [(.agg [q7, I 8]), q1, (.sl false [I 7])] .empty).map (fun p => p.1) = some (.ret ((.sl false []))) := by
  have h := rcT_eq (pg := pg) (T := tb0) (b := m + 0) (fun n hn => tb0_ok n (by omega)) 100
  have e : m + 0 + 100 = m + 100 := by omega
  rw [e] at h
  rw [← h]
  exact r13_t _
theorem r15_t (R : Rc) : ((rcT pg tb0 R 100).fn 87 [(.agg [q7, I 8]), q2, (.sl false [I 7])] .empty).map (fun p => p.1) = some (.ret ((.sl false []))) := by kernel_rfl
theorem r15 (m : Nat) : ((rc pg (m + 100)).fn 87 [(.agg [q7, I 8]), q2, (.sl false [I 7])] .empty).map (fun p => p.1) = some (.ret ((.sl false []))) := by
  have h := rcT_eq (pg := pg) (T := tb0) (b := m + 0) (fun n hn => tb0_ok n (by omega)) 100
  have e : m + 0 + 100 = m + 100 := by omega
  rw [e] at h
  rw [← h]
  exact r15_t _
theorem r16_t (R : Rc) : ((rcT pg tb0 R 100).fn 87 [(.agg [q7, I 8]), q2, (.sl false [I 6])] .empty).map (fun p => p.1) = some (.ret ((.sl false []))) := by kernel_rfl
theorem r16 (m : Nat) : ((rc pg (m + 100)).fn 87 [(.agg [q7, I 8]), q2, (.sl false [I 6])] .empty).map (fun p => p.1) = some (.ret ((.sl false []))) := by
  have h := rcT_eq (pg := pg) (T := tb0) (b := m + 0) (fun n hn => tb0_ok n (by omega)) 100
  have e : m + 0 + 100 = m + 100 := by omega
  rw [e] at h
  rw [← h]
  exact r16_t _
end Go.Proofs.YtkbamkdgiglljaaGreat
/- Rows of a table: closed calls. -/
namespace Go.Proofs.YtkbamkdgiglljaaGreat
open Go Go.Em
set_option maxRecDepth 100000
theorem r21_t (R : Rc) : ((rcT pg tb0 R 100).fn 72 [] .empty).map (fun p => p.1) = some (.ret ((.sl false [(U8 (0)), (U8 (0)), (U8 (0)), (U8 (0)), (U8 (0)), (U8 (0)), (U8 (0)), (U8 (0))]))) := by kernel_rfl
theorem r21 (m : Nat) : ((rc pg (m + 100)).fn 72 [] .empty).map (fun p => p.1) = some (.ret ((.sl false [(U8 (0)), (U8 (0)), (U8 (0)), (U8 (0)), (U8 (0)), (U8 (0)), (U8 (0)), (U8 (0))]))) := by
  have h := rcT_eq (pg := pg) (T := tb0) (b := m + 0) (fun n hn => tb0_ok n (by omega)) 100
  have e : m + 0 + 100 = m + 100 := by omega
  rw [e] at h
  rw [← h]
  exact r21_t _
theorem r2_t (R : Rc) : ((rcT pg tb0 R 100).fn 60 [(.agg [I 0, I 1]), (.agg [I 0, I 0])] .empty).map (fun p => p.1) = some (.ret (I 1)) := by kernel_rfl
theorem r2 (m : Nat) : ((rc pg (m + 100)).fn 60 [(.agg [I 0, I 1]), (.agg [I 0, I 0])] .empty).map (fun p => p.1) = some (.ret (I 1)) := by
  have h := rcT_eq (pg := pg) (T := tb0) (b := m + 0) (fun n hn => tb0_ok n (by omega)) 100
  have e : m + 0 + 100 = m + 100 := by omega
  rw [e] at h
  rw [← h]
  exact r2_t _
end Go.Proofs.YtkbamkdgiglljaaGreat
