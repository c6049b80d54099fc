/- The bytes of an entry, by the document. -/
import Derived.Test.YtkbamkdgiglljaaGreatOe
namespace Go.Proofs.YtkbamkdgiglljaaGreat
open Go Go.Em
set_option maxRecDepth 100000
end Go.Proofs.YtkbamkdgiglljaaGreat
