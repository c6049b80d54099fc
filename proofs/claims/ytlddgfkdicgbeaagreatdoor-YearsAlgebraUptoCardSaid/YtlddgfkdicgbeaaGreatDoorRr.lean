/- Spread, by the program and by the document; the law of spreads. -/
import Derived.Test.YtlddgfkdicgbeaaGreatDoorRp
namespace Go.Proofs.YtlddgfkdicgbeaaGreatDoor
open Go Go.Em
set_option maxRecDepth 100000
end Go.Proofs.YtlddgfkdicgbeaaGreatDoor
/- The law of spreads. -/
namespace Go.Proofs.YtlddgfkdicgbeaaGreatDoor
open Go Go.Em
set_option maxRecDepth 100000
@[simp] theorem atId_sl (b : Bool) (es : List D) : atId (.sl b es) = none := by unfold atId; rfl
end Go.Proofs.YtlddgfkdicgbeaaGreatDoor
