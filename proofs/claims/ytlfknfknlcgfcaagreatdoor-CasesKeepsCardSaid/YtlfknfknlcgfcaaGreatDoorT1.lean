/- A table of closed calls. -/
import Derived.Test.YtlfknfknlcgfcaaGreatDoorR1a
import Derived.Test.YtlfknfknlcgfcaaGreatDoorR1a
import Derived.Test.YtlfknfknlcgfcaaGreatDoorR1a
import Derived.Test.YtlfknfknlcgfcaaGreatDoorR1d
import Derived.Test.YtlfknfknlcgfcaaGreatDoorR1d
import Derived.Test.YtlfknfknlcgfcaaGreatDoorR1d
import Derived.Test.YtlfknfknlcgfcaaGreatDoorR1d
namespace Go.Proofs.YtlfknfknlcgfcaaGreatDoor
open Go Go.Em
set_option maxRecDepth 100000
def tb1 : List (FuncId × List D × D) := [(174, [(.sl false [q3])], (.sl false [I 0, I 5])), (101, [q11], (.sl false [I 0, I 5, I 6])), (174, [(.sl false [q3, q1])], (.sl false [I 0, I 5, I 6])), (176, [(.agg [(.sl false [I 0, I 5, I 6]), (.sl false [q6, q7, (.agg [I 1, B false, I 1, I 2, I 3]), (.agg [I 1, B true, I 2, I 1, I (-3)])])])], .val (.slice none 0 0)), (174, [(.sl false [q3, q1, q4])], (.sl false [I 0, I 5, I 6])), (174, [(.sl false [q3, q1, q5])], (.sl false [I 0, I 5, I 6])), (174, [(.sl false [q3, q2])], (.sl false [I 0, I 5, I 6])), (176, [(.agg [(.sl false [I 0, I 5, I 6]), (.sl false [q6, q7, (.agg [I 1, B false, I 1, I 2, I 9]), (.agg [I 1, B true, I 2, I 1, I (-8)])])])], .val (.slice none 0 0)), (174, [(.sl false [q3, q2, q4])], (.sl false [I 0, I 5, I 6])), (174, [(.sl false [q3, q2, q5])], (.sl false [I 0, I 5, I 6])), (176, [(.agg [(.sl false [I 0, I 5, I 6]), (.sl false [q6, q7, (.agg [I 1, B false, I 1, I 2, I 9]), (.agg [I 1, B true, I 2, I 1, I (-8)]), (.agg [I 2, B false, I 0, I 2, I 20]), (.agg [I 2, B true, I 2, I 0, I (-14)])])])], .val (.slice none 0 0)), (167, [(.agg [(.sl false [q3, q1, q4]), (.map [(I 1, B true), (I 2, B false), (I 3, B true)])])], B false), (167, [(.agg [(.sl false [q3, q1, q4]), (.map [(I 1, B false), (I 2, B true), (I 3, B true)])])], B false)]
theorem tb1_ok (n : Nat) (hn : 80 ≤ n) : ∀ e, e ∈ tb1 → ((rc pg n).fn e.1 e.2.1 .empty).map (fun p => p.1) = some (.ret e.2.2) := by
  obtain ⟨m, rfl⟩ := more_of hn
  intro e he
  simp only [tb1, List.mem_cons, List.not_mem_nil, or_false] at he
  rcases he with rfl | rfl | rfl | rfl | rfl | rfl | rfl | rfl | rfl | rfl | rfl | rfl | rfl
  · exact r0 m
  · exact r1 m
  · exact r4 m
  · exact r6 m
  · exact r8 m
  · exact r11 m
  · exact r14 m
  · exact r16 m
  · exact r18 m
  · exact r20 m
  · exact r21 m
  · exact r30 m
  · exact r31 m
end Go.Proofs.YtlfknfknlcgfcaaGreatDoor
