/- The check of examples that each law runs answers true: the kernel runs the evaluator, piece by piece. -/
import Derived.Test.YtlfknfknlcgfcaaGreatDoorT4
namespace Go.Proofs.YtlfknfknlcgfcaaGreatDoor
open Go Go.Em
set_option maxRecDepth 100000
theorem sane_t (R : Rc) : pureCall (rcT pg tb4 R 80) 21 [] = some (.ret (.val (.bool true))) := by kernel_rfl
theorem sane_run (m : Nat) : pureCall (rc pg (m + 400)) 21 [] = some (.ret (.val (.bool true))) := by
  have h := rcT_eq (pg := pg) (T := tb4) (b := m + 320) (fun n hn => tb4_ok n (by omega)) 80
  have e : m + 320 + 80 = m + 400 := by omega
  rw [e] at h
  rw [← h]
  exact sane_t _
theorem sane_call {n : Nat} (hn : 400 ≤ n) (h : Heap) : call pg (rc pg n) 21 [] h = some (.ret (D.bool true), h) := by
  obtain ⟨m, rfl⟩ := more_of hn
  exact call_of (pg := pg) (f := 21) (args := []) rfl rfl (sane_run m)
end Go.Proofs.YtlfknfknlcgfcaaGreatDoor
