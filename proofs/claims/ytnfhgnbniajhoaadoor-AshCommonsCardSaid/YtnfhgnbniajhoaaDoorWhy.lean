/- Why of the example. -/
import Derived.Test.YtnfhgnbniajhoaaDoorAllow
namespace Go.Proofs.YtnfhgnbniajhoaaDoor
open Go Go.Em
set_option maxRecDepth 100000
def ties : D := .sl false [.agg [I 2, I 3, .val (.bool true)]]
theorem why_ex (m : Nat) : ((rc pg (m + 80)).fn 25 [ex, ties, I 1, I 4] .empty).map (fun p => p.1) = some (.ret (.tup [I 4, I 0])) := by kernel_rfl
end Go.Proofs.YtnfhgnbniajhoaaDoor
