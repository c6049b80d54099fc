/- The examples of the chapter, as the evaluator sees them. -/
import Derived.Test.YtkbamkdgiglljaaGreatPg
import Derived.Test.YtkbamkdgiglljaaGreatEmTab
namespace Go.Proofs.YtkbamkdgiglljaaGreat
open Go Go.Em
set_option maxRecDepth 100000
def I (n : Int) : D := .val (.int .i64 n)
def B (b : Bool) : D := .val (.bool b)
def U8 (n : Int) : D := .val (.int .u8 n)
def U4 (n : Int) : D := .val (.int .u32 n)
def Sb (l : List UInt8) : D := .val (.string ⟨l.toArray⟩)
def q1 : D := .agg [I 0, I 0, I 1, I 5, I 0, I 0, I 0, (Sb [])]
def q2 : D := .agg [I 0, I 1, I 6, I 7, I 0, I 0, I 0, (Sb [])]
def q3 : D := .agg [I 1, I 0, I 1, I 6, I 0, I 0, I 0, (Sb [])]
def q4 : D := .agg [I 1, I 1, I 8, I 8, I 0, I 0, I 1, (Sb [])]
def q5 : D := .agg [I 2, I 0, I 9, I 9, I 0, I 0, I 1, (Sb [])]
def q6 : D := .agg [I 1, I 2, I 7, I 10, I 0, I 0, I 1, (Sb [])]
def q7 : D := .sl false [q1, q2, q3, q4, q6, q5]
def q8 : D := .sl false [(U8 (103)), (U8 (121)), (U8 (116)), (U8 (116)), (U8 (106)), (U8 (97)), (U8 (0)), (U8 (0)), (U8 (0)), (U8 (1)), (U8 (198)), (U8 (182)), (U8 (43)), (U8 (244)), (U8 (0)), (U8 (0)), (U8 (0)), (U8 (0)), (U8 (0)), (U8 (0)), (U8 (0)), (U8 (0))]
def tb0 : List (FuncId × List D × D) := []
theorem tb0_ok (n : Nat) (_ : 0 ≤ n) : ∀ e, e ∈ tb0 → ((rc pg n).fn e.1 e.2.1 .empty).map (fun p => p.1) = some (.ret e.2.2) := fun e h => (by cases h)
end Go.Proofs.YtkbamkdgiglljaaGreat
