/- The table of small code of this seat. -/
import Derived.Test.YtkbamkdgiglljaaCode
import Derived.Test.YtkbamkdgiglljaaEmZ
import Derived.Test.YtkbamkdgiglljaaEmW
import Derived.KernelRfl
namespace Go.Proofs.Ytkbamkdgiglljaa
open Go Go.Em
set_option maxRecDepth 100000
def pg : Pg := ⟨codeAt, fun _ => none⟩
end Go.Proofs.Ytkbamkdgiglljaa
