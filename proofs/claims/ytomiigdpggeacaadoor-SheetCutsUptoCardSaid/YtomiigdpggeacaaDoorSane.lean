/- The check of examples that each law runs first answers true: the kernel runs the evaluator. -/
import Derived.Test.YtomiigdpggeacaaDoorCode
import Derived.Test.YtomiigdpggeacaaDoorEmV
import Derived.KernelRfl
namespace Go.Proofs.YtomiigdpggeacaaDoor
open Go Go.Em
set_option maxRecDepth 100000
def wordsD : List D := [.val (.string ⟨#[]⟩), .val (.int .i64 0), .val (.string ⟨#[109, 97, 114, 107]⟩), .val (.int .i64 1), .val (.string ⟨#[121, 101, 97, 114]⟩), .val (.int .i64 1), .val (.string ⟨#[112, 97, 105, 114]⟩), .val (.int .i64 2), .val (.string ⟨#[115, 108, 117, 109, 112]⟩), .val (.int .i64 1), .val (.string ⟨#[98, 101, 100]⟩), .val (.int .i64 1), .val (.string ⟨#[103, 97, 112]⟩), .val (.int .i64 2)]
def pg : Pg := ⟨codeAt, fun g => bif Nat.beq g 0 then some wordsD else none⟩
theorem sane_run (m : Nat) : pureCall (rc pg (m + 60)) 10 [] = some (.ret (.val (.bool true))) := by kernel_rfl
theorem sane_more (m : Nat) (h : Heap) : call pg (rc pg (m + 60)) 10 [] h = some (.ret (D.bool true), h) := by
  have h1 : pg.sh 10 = false := rfl
  have h2 : D.canonL [] = true := rfl
  have h3 := sane_run m
  exact call_of h1 h2 h3
theorem more_of {k n : Nat} (hn : k ≤ n) : ∃ m, n = m + k := ⟨n - k, by omega⟩
theorem sane_call {n : Nat} (hn : 60 ≤ n) (h : Heap) : call pg (rc pg n) 10 [] h = some (.ret (D.bool true), h) := by
  obtain ⟨m, hm⟩ := more_of hn
  rw [hm]
  exact sane_more m h
end Go.Proofs.YtomiigdpggeacaaDoor
