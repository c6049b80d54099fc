/- The document's steps of claims, in order. -/
import Derived.Test.YtppfjkebamegnaaDoorMo5
import Derived.Test.YtppfjkebamegnaaDoorCho1
import Derived.Test.YtppfjkebamegnaaDoorPl
namespace Go.Proofs.YtppfjkebamegnaaDoor
open Go Go.Em Go.Em.Net
set_option maxRecDepth 100000
end Go.Proofs.YtppfjkebamegnaaDoor
/- The document's steps that lead on with the least bound. -/
namespace Go.Proofs.YtppfjkebamegnaaDoor
open Go Go.Em Go.Em.Net
set_option maxRecDepth 100000
theorem index_place {l : List Clm} (h0 : chkF l = 0) {v : Int} (hv : v ∈ marksF l) {n : Nat} (hn : 100 ≤ n) : pureCall (rc pg n) 56 [intsD (marksF l), D.int v] = some (.ret (D.int (placeF (marksF l) v))) := by
  have hl3 := (chk_ok h0).2.2
  have := index_run (marksF l) (by omega) v (n := n) (by omega)
  rw [ix_place hv, Nat.zero_add] at this
  exact this
end Go.Proofs.YtppfjkebamegnaaDoor
