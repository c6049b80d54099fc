/- The examples of the chapter, as the evaluator sees them. -/
import Derived.Test.YtlfknfknlcgfcaaGreatDoorPg
import Derived.Test.YtlfknfknlcgfcaaGreatDoorEmTab
namespace Go.Proofs.YtlfknfknlcgfcaaGreatDoor
open Go Go.Em
set_option maxRecDepth 100000
def I (n : Int) : D := .val (.int .i64 n)
def B (b : Bool) : D := .val (.bool b)
def q1 : D := .agg [I 5, I 6, I 3, I 3, I 2]
def q2 : D := .agg [I 5, I 6, I 8, I 9, I 2]
def q3 : D := .agg [I 0, I 5, I 10, I 12, I 1]
def q4 : D := .agg [I 0, I 6, I 30, I 40, I 3]
def q5 : D := .agg [I 0, I 6, I 14, I 20, I 3]
def q6 : D := .agg [I 0, B false, I 0, I 1, I 12]
def q7 : D := .agg [I 0, B true, I 1, I 0, I (-10)]
def q8 : D := .sl false [(.sl false [q1]), (.sl false [q2])]
def q9 : D := .sl false [(.sl false []), (.sl false [q4]), (.sl false [q5])]
def q10 : D := .sl false [(.agg [I 2, q8]), (.agg [I 3, q9])]
def q11 : D := .agg [(.sl false [q3]), q10]
def tb0 : List (FuncId × List D × D) := []
theorem tb0_ok (n : Nat) (_ : 0 ≤ n) : ∀ e, e ∈ tb0 → ((rc pg n).fn e.1 e.2.1 .empty).map (fun p => p.1) = some (.ret e.2.2) := fun e h => (by cases h)
end Go.Proofs.YtlfknfknlcgfcaaGreatDoor
