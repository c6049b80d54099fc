/- The document's chronology: the years that are left to one mark. -/
import Derived.Test.YtlkpikdfbodhoaaDoorSh1
import Derived.Test.YtlkpikdfbodhoaaDoorRoom
namespace Go.Proofs.YtlkpikdfbodhoaaDoor
open Go Go.Em Go.Em.Net
set_option maxRecDepth 100000
def GZ (ty sz len : Nat) (cs : List D) (h : Heap) (d : D) : Prop := (len = 0 ∧ d = .val (.slice none 0 0)) ∨ 0 < len ∧ ∃ k, d = .slr k 0 len sz none ∧ h.get k = some (.cells ty cs) ∧ k < h.next
theorem GZ.keep {ty sz len : Nat} {cs : List D} {h h' : Heap} {d : D} (g : GZ ty sz len cs h d) (hn : h.next ≤ h'.next) (hk : ∀ q, q < h.next → h'.get q = h.get q) : GZ ty sz len cs h' d := by
  rcases g with g | ⟨g0, k, g1, g2, g3⟩
  · exact .inl g
  · exact .inr ⟨g0, k, g1, by rw [hk _ g3]; exact g2, by omega⟩
end Go.Proofs.YtlkpikdfbodhoaaDoor
