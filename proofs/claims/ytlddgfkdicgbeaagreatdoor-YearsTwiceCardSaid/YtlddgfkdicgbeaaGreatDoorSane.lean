/- The check of examples that each law runs answers true: the kernel runs the evaluator, piece by piece. -/
import Derived.Test.YtlddgfkdicgbeaaGreatDoorT4
namespace Go.Proofs.YtlddgfkdicgbeaaGreatDoor
open Go Go.Em
set_option maxRecDepth 100000
theorem sane_t (R : Rc) : pureCall (rcT pg tb4 R 250) 18 [] = some (.ret (.val (.bool true))) := by kernel_rfl
theorem sane_run (m : Nat) : pureCall (rc pg (m + 1250)) 18 [] = some (.ret (.val (.bool true))) := by
  have h := rcT_eq (pg := pg) (T := tb4) (b := m + 1000) (fun n hn => tb4_ok n (by omega)) 250
  have e : m + 1000 + 250 = m + 1250 := by omega
  rw [e] at h
  rw [← h]
  exact sane_t _
theorem sane_call {n : Nat} (hn : 1250 ≤ n) (h : Heap) : call pg (rc pg n) 18 [] h = some (.ret (D.bool true), h) := by
  obtain ⟨m, rfl⟩ := more_of hn
  exact call_of (pg := pg) (f := 18) (args := []) rfl rfl (sane_run m)
end Go.Proofs.YtlddgfkdicgbeaaGreatDoor
