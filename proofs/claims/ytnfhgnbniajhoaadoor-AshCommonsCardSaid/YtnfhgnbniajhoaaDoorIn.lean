/- Arguments of the law, as the evaluator sees them. -/
import Derived.Test.YtnfhgnbniajhoaaDoorOk
import Derived.Test.YtnfhgnbniajhoaaDoorAshes
import Derived.Test.YtnfhgnbniajhoaaDoorCards
import Derived.SevenTiedAt
namespace Go.Proofs.YtnfhgnbniajhoaaDoor
open Go Go.Em Go.RowKit Go.ChangeShapes Go.ChangeAt Go.WideShapes Go.Joins
set_option maxRecDepth 100000
section
variable {H : Type} {enc : TypeId × Value → H} {W : World} {base : Nat} {r : Reach} {b0 : Nat} {spare : Nat → Bool} {held : Bool} {v : Value} {d : DataW H} {p : List MemPlace}
/-- A slice of ashes. -/
theorem ashes_in (hv : Value.okWide Tryd.prog W r b0 22 v) (h : DataW.Trod enc Tryd.prog W base spare held 22 v d p) : ∃ l : List As, l.length ≤ 9223372036854775807 ∧ Den (ctxOf W) v (assD l) := by
  obtain ⟨a, len, cap, rfl⟩ := okWide_slice Tryd.underlying22 hv
  obtain ⟨fuel, hf⟩ := h
  have hok : Cell.okWide Tryd.prog W r b0 22 (.slice a len cap) := by
    simpa only [Value.okWide, Tryd.underlying22] using hv
  exact ashes_den Tryd.underlying22 Tryd.underlying31 size31 ⟨rfl, rfl⟩ ⟨rfl, rfl⟩ ⟨rfl, rfl⟩ Tryd.underlying26 size26 Tryd.underlying25 size25 ⟨rfl, rfl⟩ ⟨rfl, rfl⟩ Tryd.underlying3 size3 hok hf
end
end Go.Proofs.YtnfhgnbniajhoaaDoor
