/- A table of closed calls. -/
import Derived.Test.YtlddgfkdicgbeaaGreatDoorR1a
namespace Go.Proofs.YtlddgfkdicgbeaaGreatDoor
open Go Go.Em
set_option maxRecDepth 100000
def tb1 : List (FuncId × List D × D) := [(125, [(.sl false [q3, q4])], (.sl false [I 0, I 1, I 2])), (65, [q7], (.sl false [I 0, I 1, I 2]))]
theorem tb1_ok (n : Nat) (hn : 250 ≤ n) : ∀ e, e ∈ tb1 → ((rc pg n).fn e.1 e.2.1 .empty).map (fun p => p.1) = some (.ret e.2.2) := by
  obtain ⟨m, rfl⟩ := more_of hn
  intro e he
  simp only [tb1, List.mem_cons, List.not_mem_nil, or_false] at he
  rcases he with rfl | rfl
  · exact r0 m
  · exact r2 m
end Go.Proofs.YtlddgfkdicgbeaaGreatDoor
