/- The examples of the chapter, as the evaluator sees them. -/
import Derived.Test.YtlddgfkdicgbeaaGreatDoorPg
import Derived.Test.YtlddgfkdicgbeaaGreatDoorEmTab
namespace Go.Proofs.YtlddgfkdicgbeaaGreatDoor
open Go Go.Em
set_option maxRecDepth 100000
def I (n : Int) : D := .val (.int .i64 n)
def B (b : Bool) : D := .val (.bool b)
def q1 : D := .sl false [I 0, I 7, I 17]
def q2 : D := .sl false [I (-5), I 0, I 10]
def q3 : D := .agg [I 0, I 1, I 5, I 7, I 1]
def q4 : D := .agg [I 1, I 2, I 10, I 10, I 1]
def q5 : D := .sl false [I (-15), I (-10), I 0]
def q6 : D := .agg [I 1, I 0, I 2, I (-1), I 0]
def q7 : D := .agg [(.sl false [q3, q4]), (.sl false [])]
def tb0 : List (FuncId × List D × D) := []
theorem tb0_ok (n : Nat) (_ : 0 ≤ n) : ∀ e, e ∈ tb0 → ((rc pg n).fn e.1 e.2.1 .empty).map (fun p => p.1) = some (.ret e.2.2) := fun e h => (by cases h)
end Go.Proofs.YtlddgfkdicgbeaaGreatDoor
