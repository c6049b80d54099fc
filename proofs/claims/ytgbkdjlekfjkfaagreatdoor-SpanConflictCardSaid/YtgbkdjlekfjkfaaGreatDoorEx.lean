/- The examples of the chapter, as the evaluator sees them. -/
import Derived.Test.YtgbkdjlekfjkfaaGreatDoorPg
import Derived.Test.YtgbkdjlekfjkfaaGreatDoorEmTab
namespace Go.Proofs.YtgbkdjlekfjkfaaGreatDoor
open Go Go.Em
set_option maxRecDepth 100000
def I (n : Int) : D := .val (.int .i64 n)
def B (b : Bool) : D := .val (.bool b)
def cl (a b lo hi n : Int) : D := .agg [I a, I b, I lo, I hi, I n]
def exL : List D := [cl 0 5 10 12 1, cl 5 6 3 3 2, cl 6 9 (-2) 4 3, cl 0 9 14 20 4]
def ex : D := .sl false exL
def moL : List D := [cl 0 5 10 12 1, cl 5 6 3 3 2, cl 6 9 (-2) 4 3, cl 0 9 14 20 4, cl 9 0 (-13) (-13) 7]
def mo : D := .sl false moL
def gEx : D := .agg [.sl false [I 0, I 5, I 6, I 9], .sl false [.agg [I 0, B false, I 0, I 1, I 12], .agg [I 0, B true, I 1, I 0, I (-10)], .agg [I 1, B false, I 1, I 2, I 3], .agg [I 1, B true, I 2, I 1, I (-3)], .agg [I 2, B false, I 2, I 3, I 4], .agg [I 2, B true, I 3, I 2, I 2], .agg [I 3, B false, I 0, I 3, I 20], .agg [I 3, B true, I 3, I 0, I (-14)]]]
def trial (a b c d e : Bool) : D := .agg [mo, .map [(I 1, B a), (I 2, B b), (I 3, B c), (I 4, B d), (I 7, B e)]]
def chn : D := .sl false [.agg [I 3, B true], .agg [I 4, B true]]
theorem ck_ex (m : Nat) : ((rc pg (m + 40)).fn 38 [ex] .empty).map (fun p => p.1) = some (.ret (I 0)) := by kernel_rfl
theorem ck_mo (m : Nat) : ((rc pg (m + 40)).fn 38 [mo] .empty).map (fun p => p.1) = some (.ret (I 0)) := by kernel_rfl
theorem contra_ex (m : Nat) : ((rc pg (m + 40)).fn 109 [gEx] .empty).map (fun p => p.1) = some (.ret (B false)) := by kernel_rfl
theorem place_ex0 (m : Nat) : ((rc pg (m + 40)).fn 100 [.sl false [I 0, I 5, I 6, I 9], I 0] .empty).map (fun p => p.1) = some (.ret (I 0)) := by kernel_rfl
theorem place_ex5 (m : Nat) : ((rc pg (m + 40)).fn 100 [.sl false [I 0, I 5, I 6, I 9], I 5] .empty).map (fun p => p.1) = some (.ret (I 1)) := by kernel_rfl
theorem place_ex6 (m : Nat) : ((rc pg (m + 40)).fn 100 [.sl false [I 0, I 5, I 6, I 9], I 6] .empty).map (fun p => p.1) = some (.ret (I 2)) := by kernel_rfl
theorem place_ex9 (m : Nat) : ((rc pg (m + 40)).fn 100 [.sl false [I 0, I 5, I 6, I 9], I 9] .empty).map (fun p => p.1) = some (.ret (I 3)) := by kernel_rfl
def tb1 : List (FuncId × List D × D) := [(38, [ex], I 0), (38, [mo], I 0), (109, [gEx], B false), (100, [.sl false [I 0, I 5, I 6, I 9], I 0], I 0), (100, [.sl false [I 0, I 5, I 6, I 9], I 5], I 1), (100, [.sl false [I 0, I 5, I 6, I 9], I 6], I 2), (100, [.sl false [I 0, I 5, I 6, I 9], I 9], I 3)]
theorem tb1_ok (n : Nat) (hn : 40 ≤ n) : ∀ e, e ∈ tb1 → ((rc pg n).fn e.1 e.2.1 .empty).map (fun p => p.1) = some (.ret e.2.2) := by
  obtain ⟨m, rfl⟩ := more_of hn
  intro e he
  simp only [tb1, List.mem_cons, List.not_mem_nil, or_false] at he
  rcases he with rfl | rfl | rfl | rfl | rfl | rfl | rfl
  · exact ck_ex m
  · exact ck_mo m
  · exact contra_ex m
  · exact place_ex0 m
  · exact place_ex5 m
  · exact place_ex6 m
  · exact place_ex9 m
end Go.Proofs.YtgbkdjlekfjkfaaGreatDoor
