/- The place of a mark that may not be there. -/
import Derived.Test.YtppfjkebamegnaaDoorKp1
import Derived.Test.YtppfjkebamegnaaDoorMul
import Derived.Test.YtppfjkebamegnaaDoorEmNet
namespace Go.Proofs.YtppfjkebamegnaaDoor
open Go Go.Em
set_option maxRecDepth 100000
end Go.Proofs.YtppfjkebamegnaaDoor
/- The closure of claims between two marks, by the program. -/
namespace Go.Proofs.YtppfjkebamegnaaDoor
open Go Go.Em Go.Em.Net
set_option maxRecDepth 100000
end Go.Proofs.YtppfjkebamegnaaDoor
/- Bounds, by the program. -/
namespace Go.Proofs.YtppfjkebamegnaaDoor
open Go Go.Em Go.Em.Net
set_option maxRecDepth 100000
end Go.Proofs.YtppfjkebamegnaaDoor
/- The closure of claims: it does not depend on their order, and no bound grows with more of them. -/
namespace Go.Proofs.YtppfjkebamegnaaDoor
open Go Go.Em Go.Em.Net
end Go.Proofs.YtppfjkebamegnaaDoor
/- Years that are given to marks one after the other, each within the room that the bounds leave it: mathematics. -/
namespace Go.Proofs.YtppfjkebamegnaaDoor
open Go Go.Em Go.Em.Net
/-- The least and the greatest year that the first marks leave; whether they leave all. -/
def roomI (A : Nat → Nat → Int) (dt : Nat → Bool) (y : Nat → Int) (i : Nat) : Nat → Int × Int × Bool
  | 0 => (-1000000000, 1000000000, true)
  | J + 1 => if dt J = true ∧ A i J ≠ 1000000000 then (max (roomI A dt y i J).1 (y J - A i J), min (roomI A dt y i J).2.1 (y J + A J i), false) else roomI A dt y i J
/-- The number that stands behind those that were taken. -/
def pickI (p : List Int) (t : Nat) (c : Int) : Int := if p = [] ∨ c < 1 then 0 else p.getD (t % p.length) 0 % c
structure Fs where
  dt : Nat → Bool
  y : Nat → Int
  t : Nat
def Fs.put (s : Fs) (i : Nat) (v : Int) (t : Nat) : Fs := ⟨fun q => if q = i then true else s.dt q, fun q => if q = i then v else s.y q, t⟩
def fillS (A : Nat → Nat → Int) (n : Nat) (p : List Int) (s : Fs) (i : Nat) : Fs :=
  if s.dt i = true then s
  else if (roomI A s.dt s.y i n).2.2 = true then s.put i 0 s.t
  else s.put i ((roomI A s.dt s.y i n).1 + pickI p s.t ((roomI A s.dt s.y i n).2.1 - (roomI A s.dt s.y i n).1 + 1)) (s.t + 1)
def fillN (A : Nat → Nat → Int) (n : Nat) (p : List Int) (s : Fs) : Nat → Fs
  | 0 => s
  | i + 1 => fillS A n p (fillN A n p s i) i
end Go.Proofs.YtppfjkebamegnaaDoor
/- Whether a net is closed, by the program: the closure of claims is. -/
namespace Go.Proofs.YtppfjkebamegnaaDoor
open Go Go.Em Go.Em.Net
set_option maxRecDepth 100000
end Go.Proofs.YtppfjkebamegnaaDoor
/- Whether a net is closed, by the program: the loops, and the answer. -/
namespace Go.Proofs.YtppfjkebamegnaaDoor
open Go Go.Em Go.Em.Net
set_option maxRecDepth 100000
end Go.Proofs.YtppfjkebamegnaaDoor
/- Whether a net is closed, by the program: the other loops, and the answer. -/
namespace Go.Proofs.YtppfjkebamegnaaDoor
open Go Go.Em Go.Em.Net
set_option maxRecDepth 100000
end Go.Proofs.YtppfjkebamegnaaDoor
/- The closure of claims, by the program's exported function; nets that are equal; claims with one more. -/
namespace Go.Proofs.YtppfjkebamegnaaDoor
open Go Go.Em Go.Em.Net
set_option maxRecDepth 100000
theorem sameF_self (a : List Int) : sameF a a = true := by unfold sameF; simp
end Go.Proofs.YtppfjkebamegnaaDoor
/- The closure does not depend on the order of the claims: rotations; one more claim; places; remainders. -/
namespace Go.Proofs.YtppfjkebamegnaaDoor
open Go Go.Em Go.Em.Net
set_option maxRecDepth 100000
theorem ix_place {v : Int} : ∀ {M : List Int} {i : Nat}, v ∈ M → ixP (· == v) i M = ((i + placeF M v : Nat) : Int)
  | [], _, h => absurd h List.not_mem_nil
  | a :: M, i, h => by
    unfold ixP placeF
    rw [List.idxOf_cons]
    by_cases e : a = v
    · subst e; simp
    · have e' : (a == v) = false := by simpa using e
      have hv : v ∈ M := by
        rcases List.mem_cons.1 h with h | h
        · exact absurd h.symm e
        · exact h
      have := ix_place (i := i + 1) hv
      unfold placeF at this
      simp only [e', Bool.false_eq_true, if_false, cond_false]
      rw [this]
      congr 1
      omega
end Go.Proofs.YtppfjkebamegnaaDoor
