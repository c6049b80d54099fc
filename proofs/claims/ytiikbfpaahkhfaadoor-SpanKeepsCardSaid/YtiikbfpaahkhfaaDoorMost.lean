/- Most of the example. -/
import Derived.Test.YtiikbfpaahkhfaaDoorEx
namespace Go.Proofs.YtiikbfpaahkhfaaDoor
open Go Go.Em
set_option maxRecDepth 100000
theorem most_ex_t (R : Rc) : pureCall (rcT pg tb1 R 50) 24 [ex, I 0, I 9] = some (.ret (.tup [I 19, .sl false [.agg [I 0, B false], .agg [I 1, B false], .agg [I 2, B false]], I 0])) := by kernel_rfl
theorem most_ex (m : Nat) : pureCall (rc pg (m + 90)) 24 [ex, I 0, I 9] = some (.ret (.tup [I 19, .sl false [.agg [I 0, B false], .agg [I 1, B false], .agg [I 2, B false]], I 0])) := by
  have h := rcT_eq (pg := pg) (T := tb1) (b := m + 40) (fun n hn => tb1_ok n (by omega)) 50
  have e : m + 40 + 50 = m + 90 := by omega
  rw [e] at h
  rw [← h]
  exact most_ex_t _
end Go.Proofs.YtiikbfpaahkhfaaDoor
