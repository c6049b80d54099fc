/- A table of closed calls. -/
import Derived.Test.YtlddgfkdicgbeaaGreatDoorR3a
import Derived.Test.YtlddgfkdicgbeaaGreatDoorR3a
import Derived.Test.YtlddgfkdicgbeaaGreatDoorR3a
import Derived.Test.YtlddgfkdicgbeaaGreatDoorR3a
namespace Go.Proofs.YtlddgfkdicgbeaaGreatDoor
open Go Go.Em
set_option maxRecDepth 100000
def tb3 : List (FuncId × List D × D) := [(125, [(.sl false [q3, q4])], (.sl false [I 0, I 1, I 2])), (90, [(.sl false [q3, q4])], I 0), (65, [q7], (.sl false [I 0, I 1, I 2])), (143, [(.sl false [q3, q4])], (.tup [(.sl false []), I 0])), (144, [(.sl false [q3, q4]), I 0, I 2], (.tup [(.agg [(.sl false [I 0, I 1, I 2]), (.sl false [q1, q2, q5]), I 0, I 2]), I 0])), (144, [(.sl false [q3, q4]), I 2, I 1], (.tup [(.agg [(.sl false [I 0, I 1, I 2]), (.sl false [q1, q2, q5]), I 2, I 1]), I 0])), (73, [(.sl false [q3, q4])], (.tup [(.agg [(.sl false [I 0, I 1, I 2]), (.sl false [q1, q2, q5])]), I 0]))]
theorem tb3_ok (n : Nat) (hn : 750 ≤ n) : ∀ e, e ∈ tb3 → ((rc pg n).fn e.1 e.2.1 .empty).map (fun p => p.1) = some (.ret e.2.2) := by
  obtain ⟨m, rfl⟩ := more_of hn
  intro e he
  simp only [tb3, List.mem_cons, List.not_mem_nil, or_false] at he
  rcases he with rfl | rfl | rfl | rfl | rfl | rfl | rfl
  · exact r0 (m + 500)
  · exact r1 (m + 250)
  · exact r2 (m + 500)
  · exact r3 m
  · exact r4 m
  · exact r6 m
  · exact r8 m
end Go.Proofs.YtlddgfkdicgbeaaGreatDoor
