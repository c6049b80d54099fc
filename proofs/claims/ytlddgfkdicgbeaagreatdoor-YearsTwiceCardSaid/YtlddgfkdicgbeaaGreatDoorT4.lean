/- A table of closed calls. -/
import Derived.Test.YtlddgfkdicgbeaaGreatDoorR4a
import Derived.Test.YtlddgfkdicgbeaaGreatDoorR4a
import Derived.Test.YtlddgfkdicgbeaaGreatDoorR4a
namespace Go.Proofs.YtlddgfkdicgbeaaGreatDoor
open Go Go.Em
set_option maxRecDepth 100000
def tb4 : List (FuncId × List D × D) := [(125, [(.sl false [q3, q4])], (.sl false [I 0, I 1, I 2])), (90, [(.sl false [q3, q4])], I 0), (65, [q7], (.sl false [I 0, I 1, I 2])), (143, [(.sl false [q3, q4])], (.tup [(.sl false []), I 0])), (144, [(.sl false [q3, q4]), I 0, I 2], (.tup [(.agg [(.sl false [I 0, I 1, I 2]), (.sl false [q1, q2, q5]), I 0, I 2]), I 0])), (35, [q7, q6, I 0], (.tup [(.sl false [(.agg [I 14, I 17])]), I 0])), (144, [(.sl false [q3, q4]), I 2, I 1], (.tup [(.agg [(.sl false [I 0, I 1, I 2]), (.sl false [q1, q2, q5]), I 2, I 1]), I 0])), (46, [q7, q6, (.agg [I 2, I 0, I 1, I 9, I 9])], (.tup [(.sl false [(.agg [I (-1), I 0])]), I 0])), (73, [(.sl false [q3, q4])], (.tup [(.agg [(.sl false [I 0, I 1, I 2]), (.sl false [q1, q2, q5])]), I 0])), (37, [q7, (.sl false [q6, (.agg [I 2, I 0, I 1, I 9, I 9])]), I 0, (.agg [I 14, I 15])], (.tup [I 0, I 2, I 0]))]
theorem tb4_ok (n : Nat) (hn : 1000 ≤ n) : ∀ e, e ∈ tb4 → ((rc pg n).fn e.1 e.2.1 .empty).map (fun p => p.1) = some (.ret e.2.2) := by
  obtain ⟨m, rfl⟩ := more_of hn
  intro e he
  simp only [tb4, List.mem_cons, List.not_mem_nil, or_false] at he
  rcases he with rfl | rfl | rfl | rfl | rfl | rfl | rfl | rfl | rfl | rfl
  · exact r0 (m + 750)
  · exact r1 (m + 500)
  · exact r2 (m + 750)
  · exact r3 (m + 250)
  · exact r4 (m + 250)
  · exact r5 m
  · exact r6 (m + 250)
  · exact r7 m
  · exact r8 (m + 250)
  · exact r9 m
end Go.Proofs.YtlddgfkdicgbeaaGreatDoor
