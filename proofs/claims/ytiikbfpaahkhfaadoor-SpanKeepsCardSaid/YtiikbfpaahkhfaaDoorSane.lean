/- The check of examples that each law runs first answers true: the kernel runs the evaluator, piece by piece. -/
import Derived.Test.YtiikbfpaahkhfaaDoorBnd
import Derived.Test.YtiikbfpaahkhfaaDoorMost
import Derived.Test.YtiikbfpaahkhfaaDoorChr
import Derived.Test.YtiikbfpaahkhfaaDoorTail
namespace Go.Proofs.YtiikbfpaahkhfaaDoor
open Go Go.Em
set_option maxRecDepth 100000
theorem claims_run (m : Nat) : pureT (rc pg (m + 10)) 22 = some (.ret (.sl true exL)) := by kernel_rfl
theorem frz1 (h : Heap) : each (frz h depth) [D.sl true exL, .val (.int .i64 0), .val (.int .i64 9)] = some ([ex, I 0, I 9], []) := by kernel_rfl
theorem frz2 (h : Heap) : each (frz h depth) [D.sl true exL, .val (.slice none 0 0)] = some ([ex, .sl false []], []) := by kernel_rfl
theorem sane_run (m : Nat) : pureCall (rc pg (m + 151)) 10 [] = some (.ret (.val (.bool true))) := by
  obtain ⟨m1, hm, e⟩ := body (pg := pg) (f := 10) (args := []) (show 0 < m + 151 by omega) rfl rfl
  obtain rfl : m1 = m + 150 := by omega
  rw [e, k10_eq]
  have c22 : ∀ h, call pg (rc pg (m + 150)) 22 [] h = some (.ret (.sl true exL), h) := fun h => by
    have := claims_run (m + 140)
    rw [show m + 140 + 10 = m + 150 by omega] at this
    have s : pg.sh 22 = false := rfl
    simp [call, s, pureA, this]
  have c23 : ∀ h, call pg (rc pg (m + 150)) 23 [.sl true exL, .val (.int .i64 0), .val (.int .i64 9)] h = some (.ret (.tup [I 14, I 19, I 0]), h) := fun h => call_frz rfl (frz1 h) (by have := bnd_pure (m + 60); rw [show m + 60 + 90 = m + 150 by omega] at this; exact this)
  have c24 : ∀ h, call pg (rc pg (m + 150)) 24 [.sl true exL, .val (.int .i64 0), .val (.int .i64 9)] h = some (.ret (.tup [I 19, .sl false [.agg [I 0, B false], .agg [I 1, B false], .agg [I 2, B false]], I 0]), h) := fun h => call_frz rfl (frz1 h) (by have := most_ex (m + 60); rw [show m + 60 + 90 = m + 150 by omega] at this; exact this)
  have c25 : ∀ h, call pg (rc pg (m + 150)) 25 [.sl true exL, .val (.slice none 0 0)] h = some (.ret (.tup [.sl false [.agg [I 0, I 0], .agg [I 5, I 10], .agg [I 6, I 13], .agg [I 9, I 14]], I 0]), h) := fun h => call_frz rfl (frz2 h) (by have := chr_ex (m + 60); rw [show m + 60 + 90 = m + 150 by omega] at this; exact this)
  simp [c22, c23, c24, c25]
  have h := rcT_eq (pg := pg) (T := tb2) (b := m + 90) (fun n hn => tb2_ok n (by omega)) 60
  have e2 : m + 90 + 60 = m + 150 := by omega
  rw [e2] at h
  rw [← h]
  generalize rc pg (m + 90) = R
  clear h c22 c23 c24 c25 e
  refine Eq.trans (congrArg (fun s => endK (rcT pg tb2 R 60) [(.tmp 0, false, 0)] (k10t.ev ⟨pg, 96, none⟩ (rcT pg tb2 R 60) s)) (?_ : _ = (⟨eT, ⟨[], 480⟩, []⟩ : St))) (tail_run R)
  kernel_rfl
theorem sane_call {n : Nat} (hn : 151 ≤ n) (h : Heap) : call pg (rc pg n) 10 [] h = some (.ret (D.bool true), h) := by
  obtain ⟨m, rfl⟩ := more_of hn
  exact call_of (pg := pg) (f := 10) (args := []) rfl rfl (sane_run m)
end Go.Proofs.YtiikbfpaahkhfaaDoor
