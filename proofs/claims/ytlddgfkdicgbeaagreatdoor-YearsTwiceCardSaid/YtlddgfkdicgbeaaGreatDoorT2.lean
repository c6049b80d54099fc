/- A table of closed calls. -/
import Derived.Test.YtlddgfkdicgbeaaGreatDoorR2a
namespace Go.Proofs.YtlddgfkdicgbeaaGreatDoor
open Go Go.Em
set_option maxRecDepth 100000
def tb2 : List (FuncId × List D × D) := [(125, [(.sl false [q3, q4])], (.sl false [I 0, I 1, I 2])), (90, [(.sl false [q3, q4])], I 0), (65, [q7], (.sl false [I 0, I 1, I 2]))]
theorem tb2_ok (n : Nat) (hn : 500 ≤ n) : ∀ e, e ∈ tb2 → ((rc pg n).fn e.1 e.2.1 .empty).map (fun p => p.1) = some (.ret e.2.2) := by
  obtain ⟨m, rfl⟩ := more_of hn
  intro e he
  simp only [tb2, List.mem_cons, List.not_mem_nil, or_false] at he
  rcases he with rfl | rfl | rfl
  · exact r0 (m + 250)
  · exact r1 m
  · exact r2 (m + 250)
end Go.Proofs.YtlddgfkdicgbeaaGreatDoor
