/- The document's sets: Union, Common, Less. -/
import Derived.Test.YtlddgfkdicgbeaaGreatDoorRf
namespace Go.Proofs.YtlddgfkdicgbeaaGreatDoor
open Go Go.Em
set_option maxRecDepth 100000
end Go.Proofs.YtlddgfkdicgbeaaGreatDoor
/- The document's sets: Common, Less. -/
namespace Go.Proofs.YtlddgfkdicgbeaaGreatDoor
open Go Go.Em
set_option maxRecDepth 100000
end Go.Proofs.YtlddgfkdicgbeaaGreatDoor
