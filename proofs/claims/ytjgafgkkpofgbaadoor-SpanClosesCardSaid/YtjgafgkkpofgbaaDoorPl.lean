/- The place of a mark that may not be there. -/
import Derived.Test.YtjgafgkkpofgbaaDoorKp1
import Derived.Test.YtjgafgkkpofgbaaDoorMul
namespace Go.Proofs.YtjgafgkkpofgbaaDoor
open Go Go.Em
set_option maxRecDepth 100000
end Go.Proofs.YtjgafgkkpofgbaaDoor
/- The closure of claims between two marks, by the program. -/
namespace Go.Proofs.YtjgafgkkpofgbaaDoor
open Go Go.Em Go.Em.Net
set_option maxRecDepth 100000
end Go.Proofs.YtjgafgkkpofgbaaDoor
/- Bounds, by the program. -/
namespace Go.Proofs.YtjgafgkkpofgbaaDoor
open Go Go.Em Go.Em.Net
set_option maxRecDepth 100000
end Go.Proofs.YtjgafgkkpofgbaaDoor
