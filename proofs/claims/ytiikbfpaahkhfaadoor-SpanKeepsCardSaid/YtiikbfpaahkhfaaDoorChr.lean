/- Chronology of the example. -/
import Derived.Test.YtiikbfpaahkhfaaDoorEx
namespace Go.Proofs.YtiikbfpaahkhfaaDoor
open Go Go.Em
set_option maxRecDepth 100000
theorem chr_ex_t (R : Rc) : pureCall (rcT pg tb1 R 50) 25 [ex, .sl false []] = some (.ret (.tup [.sl false [.agg [I 0, I 0], .agg [I 5, I 10], .agg [I 6, I 13], .agg [I 9, I 14]], I 0])) := by kernel_rfl
theorem chr_ex (m : Nat) : pureCall (rc pg (m + 90)) 25 [ex, .sl false []] = some (.ret (.tup [.sl false [.agg [I 0, I 0], .agg [I 5, I 10], .agg [I 6, I 13], .agg [I 9, I 14]], I 0])) := by
  have h := rcT_eq (pg := pg) (T := tb1) (b := m + 40) (fun n hn => tb1_ok n (by omega)) 50
  have e : m + 40 + 50 = m + 90 := by omega
  rw [e] at h
  rw [← h]
  exact chr_ex_t _
end Go.Proofs.YtiikbfpaahkhfaaDoor
