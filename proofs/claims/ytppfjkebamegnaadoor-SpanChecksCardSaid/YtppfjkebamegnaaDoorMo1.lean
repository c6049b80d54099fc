/- The chain of the least bound: what a search from mark to mark gives; where it leads, and what it shows: mathematics. -/
import Derived.Test.YtppfjkebamegnaaDoorPl
import Derived.Test.YtppfjkebamegnaaDoorTz
import Derived.Test.YtppfjkebamegnaaDoorEmNet
import Derived.Test.YtppfjkebamegnaaDoorPl
namespace Go.Proofs.YtppfjkebamegnaaDoor
open Go Go.Em Go.Em.Net
end Go.Proofs.YtppfjkebamegnaaDoor
/- The chain of the least bound: does a move lead there; one round of the search, by the program. -/
namespace Go.Proofs.YtppfjkebamegnaaDoor
open Go Go.Em Go.Em.Net
set_option maxRecDepth 100000
end Go.Proofs.YtppfjkebamegnaaDoor
/- The chain of the least bound: how many steps are left, by the program. -/
namespace Go.Proofs.YtppfjkebamegnaaDoor
open Go Go.Em Go.Em.Net
set_option maxRecDepth 100000
end Go.Proofs.YtppfjkebamegnaaDoor
/- The chain of the least bound: the next move, by the program. -/
namespace Go.Proofs.YtppfjkebamegnaaDoor
open Go Go.Em Go.Em.Net
set_option maxRecDepth 100000
end Go.Proofs.YtppfjkebamegnaaDoor
