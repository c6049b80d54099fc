/- The document's own closure, in place: what its rounds do to the numbers, as long as no mark was found before itself. -/
import Derived.Test.YtppfjkebamegnaaDoorMul
namespace Go.Proofs.YtppfjkebamegnaaDoor
open Go Go.Em Go.Em.Net
/-- One number, as the document lowers it. -/
def stR (k i : Nat) (A : Nat → Nat → Int) (j : Nat) : Nat → Nat → Int := if A i k = 1000000000 ∨ A k j = 1000000000 then A else updA A i j (min (A i j) (A i k + A k j))
def rowR (k i : Nat) (A : Nat → Nat → Int) : Nat → Nat → Nat → Int
  | 0 => A
  | J + 1 => stR k i (rowR k i A J) J
end Go.Proofs.YtppfjkebamegnaaDoor
