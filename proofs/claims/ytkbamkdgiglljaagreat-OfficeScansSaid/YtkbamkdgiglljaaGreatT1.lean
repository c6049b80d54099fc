/- A table of closed calls. -/
import Derived.Test.YtkbamkdgiglljaaGreatR1a
import Derived.Test.YtkbamkdgiglljaaGreatR1a
import Derived.Test.YtkbamkdgiglljaaGreatR1a
import Derived.Test.YtkbamkdgiglljaaGreatR1d
import Derived.Test.YtkbamkdgiglljaaGreatR1d
import Derived.Test.YtkbamkdgiglljaaGreatR1d
namespace Go.Proofs.YtkbamkdgiglljaaGreat
open Go Go.Em
set_option maxRecDepth 100000
def tb1 : List (FuncId × List D × D) := [(13, [q1], I 0), (60, [(.agg [I 0, I 1]), (.agg [I 0, I 0])], I 1), (87, [(.agg [q7, I 9]), q2, (.sl false [I 7])], (.sl false [])), (87, [(.agg [q7, I 9]), q2, (.sl false [I 6])], (.sl false [])), (85, [(.agg [q7, I 9]), q2], B false), (87, [(.agg [q7, I 10]), q2, (.sl false [I 7])], (.sl false [q6])), (87, [(.agg [q7, I 8]), q1, (.sl false [I 7])], (.sl false [])), (87, [(.agg [q7, I 8]), q2, (.sl false [I 7])], (.sl false [])), (87, [(.agg [q7, I 8]), q2, (.sl false [I 6])], (.sl false [])), (87, [(.agg [q7, I 8]), q2, (.sl false [I 8, I 9])], (.sl false [q4])), (16, [(.sl false [(U8 (103)), (U8 (121)), (U8 (116)), (U8 (116)), (U8 (106)), (U8 (97)), (U8 (0)), (U8 (0)), (U8 (0)), (U8 (1))])], (U4 (3333827572))), (72, [], (.sl false [(U8 (0)), (U8 (0)), (U8 (0)), (U8 (0)), (U8 (0)), (U8 (0)), (U8 (0)), (U8 (0))])), (16, [(.sl false [(U8 (0)), (U8 (0)), (U8 (0)), (U8 (0)), (U8 (0)), (U8 (1)), (U8 (0)), (U8 (0)), (U8 (0)), (U8 (5)), (U8 (0)), (U8 (0)), (U8 (0)), (U8 (0)), (U8 (0)), (U8 (0)), (U8 (0)), (U8 (0)), (U8 (0)), (U8 (0))])], (U4 (3346656295))), (53, [(.sl false [I 2]), (.sl false [I 2])], B true), (16, [(.sl false [(U8 (49)), (U8 (50)), (U8 (51)), (U8 (52)), (U8 (53)), (U8 (54)), (U8 (55)), (U8 (56)), (U8 (57))])], (U4 (3421780262)))]
theorem tb1_ok (n : Nat) (hn : 100 ≤ n) : ∀ e, e ∈ tb1 → ((rc pg n).fn e.1 e.2.1 .empty).map (fun p => p.1) = some (.ret e.2.2) := by
  obtain ⟨m, rfl⟩ := more_of hn
  intro e he
  simp only [tb1, List.mem_cons, List.not_mem_nil, or_false] at he
  rcases he with rfl | rfl | rfl | rfl | rfl | rfl | rfl | rfl | rfl | rfl | rfl | rfl | rfl | rfl | rfl
  · exact r0 m
  · exact r2 m
  · exact r4 m
  · exact r5 m
  · exact r7 m
  · exact r10 m
  · exact r13 m
  · exact r15 m
  · exact r16 m
  · exact r18 m
  · exact r20 m
  · exact r21 m
  · exact r23 m
  · exact r25 m
  · exact r26 m
end Go.Proofs.YtkbamkdgiglljaaGreat
