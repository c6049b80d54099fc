/- A table of closed calls. -/
import Derived.Test.YtlfknfknlcgfcaaGreatDoorR4a
import Derived.Test.YtlfknfknlcgfcaaGreatDoorR4a
namespace Go.Proofs.YtlfknfknlcgfcaaGreatDoor
open Go Go.Em
set_option maxRecDepth 100000
def tb4 : List (FuncId × List D × D) := [(174, [(.sl false [q3])], (.sl false [I 0, I 5])), (101, [q11], (.sl false [I 0, I 5, I 6])), (57, [q11], I 0), (137, [(.sl false [q3])], (.tup [(.sl false []), I 0])), (174, [(.sl false [q3, q1])], (.sl false [I 0, I 5, I 6])), (127, [(.sl false [q3, q1])], I 0), (176, [(.agg [(.sl false [I 0, I 5, I 6]), (.sl false [q6, q7, (.agg [I 1, B false, I 1, I 2, I 3]), (.agg [I 1, B true, I 2, I 1, I (-3)])])])], .val (.slice none 0 0)), (137, [(.sl false [q3, q1])], (.tup [(.sl false []), I 0])), (174, [(.sl false [q3, q1, q4])], (.sl false [I 0, I 5, I 6])), (127, [(.sl false [q3, q1, q4])], I 0), (137, [(.sl false [q3, q1, q4])], (.tup [(.sl false [(.agg [I 0, B false]), (.agg [I 1, B false]), (.agg [I 2, B true])]), I 0])), (174, [(.sl false [q3, q1, q5])], (.sl false [I 0, I 5, I 6])), (127, [(.sl false [q3, q1, q5])], I 0), (137, [(.sl false [q3, q1, q5])], (.tup [(.sl false []), I 0])), (174, [(.sl false [q3, q2])], (.sl false [I 0, I 5, I 6])), (127, [(.sl false [q3, q2])], I 0), (176, [(.agg [(.sl false [I 0, I 5, I 6]), (.sl false [q6, q7, (.agg [I 1, B false, I 1, I 2, I 9]), (.agg [I 1, B true, I 2, I 1, I (-8)])])])], .val (.slice none 0 0)), (137, [(.sl false [q3, q2])], (.tup [(.sl false []), I 0])), (174, [(.sl false [q3, q2, q4])], (.sl false [I 0, I 5, I 6])), (137, [(.sl false [q3, q2, q4])], (.tup [(.sl false [(.agg [I 0, B false]), (.agg [I 1, B false]), (.agg [I 2, B true])]), I 0])), (174, [(.sl false [q3, q2, q5])], (.sl false [I 0, I 5, I 6])), (176, [(.agg [(.sl false [I 0, I 5, I 6]), (.sl false [q6, q7, (.agg [I 1, B false, I 1, I 2, I 9]), (.agg [I 1, B true, I 2, I 1, I (-8)]), (.agg [I 2, B false, I 0, I 2, I 20]), (.agg [I 2, B true, I 2, I 0, I (-14)])])])], .val (.slice none 0 0)), (137, [(.sl false [q3, q2, q5])], (.tup [(.sl false []), I 0])), (180, [(.sl false [q3, q1]), I 0, I 6], (.tup [(.agg [(.sl false [I 0, I 5, I 6]), (.sl false [(.sl false [I 0, I 12, I 15]), (.sl false [I (-10), I 0, I 3]), (.sl false [I (-13), I (-3), I 0])]), I 0, I 2]), I 0])), (180, [(.sl false [q3, q1, q5]), I 0, I 6], (.tup [(.agg [(.sl false [I 0, I 5, I 6]), (.sl false [(.sl false [I 0, I 12, I 15]), (.sl false [I (-11), I 0, I 3]), (.sl false [I (-14), I (-3), I 0])]), I 0, I 2]), I 0])), (180, [(.sl false [q3, q2]), I 0, I 6], (.tup [(.agg [(.sl false [I 0, I 5, I 6]), (.sl false [(.sl false [I 0, I 12, I 21]), (.sl false [I (-10), I 0, I 9]), (.sl false [I (-18), I (-8), I 0])]), I 0, I 2]), I 0])), (180, [(.sl false [q3, q2, q5]), I 0, I 6], (.tup [(.agg [(.sl false [I 0, I 5, I 6]), (.sl false [(.sl false [I 0, I 12, I 20]), (.sl false [I (-10), I 0, I 9]), (.sl false [I (-18), I (-8), I 0])]), I 0, I 2]), I 0])), (32, [q11, I 0, I 6], (.tup [(.sl false [(.agg [I 13, I 15]), (.agg [I 18, I 21])]), I 0])), (39, [q11, (.sl false [I 5, I 1])], (.tup [(.sl false [I 0, I 2]), (.sl false [(.agg [I 0, I 0]), (.agg [I 5, I 12]), (.agg [I 6, I 15])]), I 0])), (167, [(.agg [(.sl false [q3, q1, q4]), (.map [(I 1, B true), (I 2, B true), (I 3, B true)])])], B true), (167, [(.agg [(.sl false [q3, q1, q4]), (.map [(I 1, B true), (I 2, B false), (I 3, B true)])])], B false), (167, [(.agg [(.sl false [q3, q1, q4]), (.map [(I 1, B false), (I 2, B true), (I 3, B true)])])], B false)]
theorem tb4_ok (n : Nat) (hn : 320 ≤ n) : ∀ e, e ∈ tb4 → ((rc pg n).fn e.1 e.2.1 .empty).map (fun p => p.1) = some (.ret e.2.2) := by
  obtain ⟨m, rfl⟩ := more_of hn
  intro e he
  simp only [tb4, List.mem_cons, List.not_mem_nil, or_false] at he
  rcases he with rfl | rfl | rfl | rfl | rfl | rfl | rfl | rfl | rfl | rfl | rfl | rfl | rfl | rfl | rfl | rfl | rfl | rfl | rfl | rfl | rfl | rfl | rfl | rfl | rfl | rfl | rfl | rfl | rfl | rfl | rfl | rfl
  · exact r0 (m + 240)
  · exact r1 (m + 240)
  · exact r2 (m + 160)
  · exact r3 (m + 160)
  · exact r4 (m + 240)
  · exact r5 (m + 160)
  · exact r6 (m + 240)
  · exact r7 (m + 80)
  · exact r8 (m + 240)
  · exact r9 (m + 160)
  · exact r10 (m + 80)
  · exact r11 (m + 240)
  · exact r12 (m + 160)
  · exact r13 (m + 80)
  · exact r14 (m + 240)
  · exact r15 (m + 160)
  · exact r16 (m + 240)
  · exact r17 (m + 80)
  · exact r18 (m + 240)
  · exact r19 (m + 160)
  · exact r20 (m + 240)
  · exact r21 (m + 240)
  · exact r22 (m + 160)
  · exact r23 (m + 80)
  · exact r24 (m + 80)
  · exact r25 (m + 80)
  · exact r26 (m + 160)
  · exact r27 m
  · exact r28 m
  · exact r29 (m + 160)
  · exact r30 (m + 240)
  · exact r31 (m + 240)
end Go.Proofs.YtlfknfknlcgfcaaGreatDoor
