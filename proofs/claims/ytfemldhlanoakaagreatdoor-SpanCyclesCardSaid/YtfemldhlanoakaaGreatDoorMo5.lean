/- The chain of the least bound, by the program. -/
import Derived.Test.YtfemldhlanoakaaGreatDoorMo1
import Derived.Test.YtfemldhlanoakaaGreatDoorPl
import Derived.Test.YtfemldhlanoakaaGreatDoorTz
namespace Go.Proofs.YtfemldhlanoakaaGreatDoor
open Go Go.Em Go.Em.Net
set_option maxRecDepth 100000
end Go.Proofs.YtfemldhlanoakaaGreatDoor
/- The chain of the least bound, by the program: the function. -/
namespace Go.Proofs.YtfemldhlanoakaaGreatDoor
open Go Go.Em Go.Em.Net
set_option maxRecDepth 100000
end Go.Proofs.YtfemldhlanoakaaGreatDoor
/- The greatest number of years, with its chain: by the program. -/
namespace Go.Proofs.YtfemldhlanoakaaGreatDoor
open Go Go.Em Go.Em.Net
set_option maxRecDepth 100000
end Go.Proofs.YtfemldhlanoakaaGreatDoor
/- Chains are proofs: what the law of chains asks, of the specifications. -/
namespace Go.Proofs.YtfemldhlanoakaaGreatDoor
open Go Go.Em Go.Em.Net
set_option maxRecDepth 100000
end Go.Proofs.YtfemldhlanoakaaGreatDoor
