/- A table of closed calls. -/
import Derived.Test.YtkbamkdgiglljaaGreatR4a
namespace Go.Proofs.YtkbamkdgiglljaaGreat
open Go Go.Em
set_option maxRecDepth 100000
def tb4 : List (FuncId × List D × D) := [(13, [q1], I 0), (25, [(.agg [q7])], I 0), (60, [(.agg [I 0, I 1]), (.agg [I 0, I 0])], I 1), (87, [(.agg [q7, I 9]), q1, (.sl false [I 6])], (.sl false [q2])), (87, [(.agg [q7, I 9]), q2, (.sl false [I 7])], (.sl false [])), (87, [(.agg [q7, I 9]), q2, (.sl false [I 6])], (.sl false [])), (69, [(.agg [q7, I 9]), q1], q2), (85, [(.agg [q7, I 9]), q2], B false), (50, [(.agg [q7]), (.agg [I 0, I 0]), I 9], (.tup [(.agg [I 0, I 1]), I 0])), (87, [(.agg [q7, I 10]), q1, (.sl false [I 6])], (.sl false [q2])), (87, [(.agg [q7, I 10]), q2, (.sl false [I 7])], (.sl false [q6])), (68, [(.agg [q7, I 10]), q1], B true), (50, [(.agg [q7]), (.agg [I 0, I 0]), I 10], (.tup [(.agg [I 0, I 0]), I 0])), (87, [(.agg [q7, I 8]), q1, (.sl false [I 7])], (.sl false [])), (87, [(.agg [q7, I 8]), q1, (.sl false [I 6])], (.sl false [q2])), (87, [(.agg [q7, I 8]), q2, (.sl false [I 7])], (.sl false [])), (87, [(.agg [q7, I 8]), q2, (.sl false [I 6])], (.sl false [])), (69, [(.agg [q7, I 8]), q1], q2), (87, [(.agg [q7, I 8]), q2, (.sl false [I 8, I 9])], (.sl false [q4])), (50, [(.agg [q7]), (.agg [I 0, I 0]), I 8], (.tup [(.agg [I 0, I 0]), I 4])), (16, [(.sl false [(U8 (103)), (U8 (121)), (U8 (116)), (U8 (116)), (U8 (106)), (U8 (97)), (U8 (0)), (U8 (0)), (U8 (0)), (U8 (1))])], (U4 (3333827572))), (72, [], (.sl false [(U8 (0)), (U8 (0)), (U8 (0)), (U8 (0)), (U8 (0)), (U8 (0)), (U8 (0)), (U8 (0))])), (92, [(.agg [q8, (.sl false []), (.sl false []), (.sl false [])])], (.tup [(.agg [q8, .val (.slice none 0 0), .val (.slice none 0 0), .val (.slice none 0 0)]), (.agg [(.sl false []), I 0, I 1]), I 0])), (16, [(.sl false [(U8 (0)), (U8 (0)), (U8 (0)), (U8 (0)), (U8 (0)), (U8 (1)), (U8 (0)), (U8 (0)), (U8 (0)), (U8 (5)), (U8 (0)), (U8 (0)), (U8 (0)), (U8 (0)), (U8 (0)), (U8 (0)), (U8 (0)), (U8 (0)), (U8 (0)), (U8 (0))])], (U4 (3346656295))), (52, [(.agg [q8, (.sl false []), (.sl false []), (.sl false [])]), (.agg [(.sl false []), I 0, I 1]), q1], (.tup [(.agg [q8, (.sl false [(U8 (0)), (U8 (0)), (U8 (0)), (U8 (20)), (U8 (199)), (U8 (121)), (U8 (236)), (U8 (39)), (U8 (0)), (U8 (0)), (U8 (0)), (U8 (0)), (U8 (0)), (U8 (1)), (U8 (0)), (U8 (0)), (U8 (0)), (U8 (5)), (U8 (0)), (U8 (0)), (U8 (0)), (U8 (0)), (U8 (0)), (U8 (0)), (U8 (0)), (U8 (0)), (U8 (0)), (U8 (0))]), (.sl false []), (.sl false [])]), (.agg [(.sl false [q1]), I 0, I 1]), I 0])), (53, [(.sl false [I 2]), (.sl false [I 2])], B true), (16, [(.sl false [(U8 (49)), (U8 (50)), (U8 (51)), (U8 (52)), (U8 (53)), (U8 (54)), (U8 (55)), (U8 (56)), (U8 (57))])], (U4 (3421780262)))]
theorem tb4_ok (n : Nat) (hn : 400 ≤ n) : ∀ e, e ∈ tb4 → ((rc pg n).fn e.1 e.2.1 .empty).map (fun p => p.1) = some (.ret e.2.2) := by
  obtain ⟨m, rfl⟩ := more_of hn
  intro e he
  simp only [tb4, List.mem_cons, List.not_mem_nil, or_false] at he
  rcases he with rfl | rfl | rfl | rfl | rfl | rfl | rfl | rfl | rfl | rfl | rfl | rfl | rfl | rfl | rfl | rfl | rfl | rfl | rfl | rfl | rfl | rfl | rfl | rfl | rfl | rfl | rfl
  · exact r0 (m + 300)
  · exact r1 (m + 200)
  · exact r2 (m + 300)
  · exact r3 (m + 200)
  · exact r4 (m + 300)
  · exact r5 (m + 300)
  · exact r6 (m + 100)
  · exact r7 (m + 300)
  · exact r8 m
  · exact r9 (m + 200)
  · exact r10 (m + 300)
  · exact r11 (m + 100)
  · exact r12 m
  · exact r13 (m + 300)
  · exact r14 (m + 200)
  · exact r15 (m + 300)
  · exact r16 (m + 300)
  · exact r17 (m + 100)
  · exact r18 (m + 300)
  · exact r19 m
  · exact r20 (m + 300)
  · exact r21 (m + 300)
  · exact r22 (m + 200)
  · exact r23 (m + 300)
  · exact r24 (m + 100)
  · exact r25 (m + 300)
  · exact r26 (m + 300)
end Go.Proofs.YtkbamkdgiglljaaGreat
