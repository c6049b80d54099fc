/- How many years sets have: they add up. -/
import Derived.Test.YtlddgfkdicgbeaaGreatDoorRr
namespace Go.Proofs.YtlddgfkdicgbeaaGreatDoor
open Go Go.Em
set_option maxRecDepth 100000
open Classical in
noncomputable def cnt (P : Int → Prop) : Nat → Int
  | 0 => 0
  | n + 1 => cnt P n + (if P (-1000000000 + (n : Int)) then 1 else 0)
end Go.Proofs.YtlddgfkdicgbeaaGreatDoor
/- The law of the algebra of sets. -/
namespace Go.Proofs.YtlddgfkdicgbeaaGreatDoor
open Go Go.Em
set_option maxRecDepth 100000
theorem hasB_nf {T : List Rn} (hn : Runs.NF T) (y : Int) : hasB T y = true ↔ Runs.inL T y := by rw [hasB_iff, Runs.inC_nf hn]
end Go.Proofs.YtlddgfkdicgbeaaGreatDoor
