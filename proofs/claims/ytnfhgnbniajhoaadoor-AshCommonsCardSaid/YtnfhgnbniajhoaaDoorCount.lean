/- Count of the example, by the table of the dealer's answers. -/
import Derived.Test.YtnfhgnbniajhoaaDoorAllow
namespace Go.Proofs.YtnfhgnbniajhoaaDoor
open Go Go.Em
set_option maxRecDepth 100000
theorem count_tab (R : Rc) : ((rcT pg tbl R 50).fn 23 [ex, .sl false []] .empty).map (fun p => p.1) = some (.ret (.tup [I 6, I 0])) := by kernel_rfl
theorem count_ex (m : Nat) : ((rc pg (m + 80)).fn 23 [ex, .sl false []] .empty).map (fun p => p.1) = some (.ret (.tup [I 6, I 0])) := by
  have h := rcT_eq (pg := pg) (T := tbl) (b := m + 30) (fun n hn => tbl_ok n (by omega)) 50
  have e : m + 30 + 50 = m + 80 := by omega
  rw [e] at h
  rw [← h]
  exact count_tab _
end Go.Proofs.YtnfhgnbniajhoaaDoor
