/- The table of small code of this seat. -/
import Derived.Test.YtkbamkdgiglljaaGreatCode
import Derived.Test.YtkbamkdgiglljaaGreatEmZ
import Derived.Test.YtkbamkdgiglljaaGreatEmW
import Derived.KernelRfl
namespace Go.Proofs.YtkbamkdgiglljaaGreat
open Go Go.Em
set_option maxRecDepth 100000
def pg : Pg := ⟨codeAt, fun _ => none⟩
end Go.Proofs.YtkbamkdgiglljaaGreat
