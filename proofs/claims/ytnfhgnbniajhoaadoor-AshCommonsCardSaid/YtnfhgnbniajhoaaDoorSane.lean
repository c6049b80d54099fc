/- The check of examples that the law runs first answers true. -/
import Derived.Test.YtnfhgnbniajhoaaDoorCount
import Derived.Test.YtnfhgnbniajhoaaDoorWhy
namespace Go.Proofs.YtnfhgnbniajhoaaDoor
open Go Go.Em
set_option maxRecDepth 100000
def tbl2 : List (FuncId × List D × D) := [(23, [ex, .sl false []], .tup [I 6, I 0]), (25, [ex, ties, I 1, I 4], .tup [I 4, I 0])]
theorem tbl2_ok (n : Nat) (hn : 80 ≤ n) : ∀ e, e ∈ tbl2 → ((rc pg n).fn e.1 e.2.1 .empty).map (fun p => p.1) = some (.ret e.2.2) := by
  obtain ⟨m, rfl⟩ := more_of hn
  intro e he
  simp only [tbl2, List.mem_cons, List.not_mem_nil, or_false] at he
  rcases he with rfl | rfl
  · exact count_ex m
  · exact why_ex m
theorem sane_tab (R : Rc) : pureCall (rcT pg tbl2 R 40) 6 [] = some (.ret (.val (.bool true))) := by kernel_rfl
theorem sane_run (m : Nat) : pureCall (rc pg (m + 120)) 6 [] = some (.ret (.val (.bool true))) := by
  have h := rcT_eq (pg := pg) (T := tbl2) (b := m + 80) (fun n hn => tbl2_ok n (by omega)) 40
  have e : m + 80 + 40 = m + 120 := by omega
  rw [e] at h
  rw [← h]
  exact sane_tab _
theorem sane_call {n : Nat} (hn : 120 ≤ n) (h : Heap) : call pg (rc pg n) 6 [] h = some (.ret (D.bool true), h) := by
  obtain ⟨m, rfl⟩ := more_of hn
  exact call_of (pg := pg) (f := 6) (args := []) rfl rfl (sane_run m)
end Go.Proofs.YtnfhgnbniajhoaaDoor
