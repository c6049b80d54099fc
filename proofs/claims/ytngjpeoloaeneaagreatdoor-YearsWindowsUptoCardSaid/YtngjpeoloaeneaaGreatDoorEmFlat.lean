/- Slices of structs whose fields are one cell each: as the evaluator sees them, with a bound on how many there are. -/
import Derived.Test.YtngjpeoloaeneaaGreatDoorEmW
namespace Go.Em
open Go Go.RowKit Go.ChangeShapes Go.WideShapes Go.Deep
section
variable {H : Type} {enc : TypeId × Value → H} {P : Program} {w : World} {base : Nat} {spare : Nat → Bool} {held : Bool} {r : Reach} {b0 : Nat}
theorem ints2_read {t ti : TypeId} {f0 f1 : Field} {fuel : Nat} {cs : List Value} {x : DataW H × List MemPlace} (ht : P.underlying t = some (.struct #[f0, f1])) (hC : P.cellsOf t = 2) (h0 : f0.type = ti ∧ f0.offset = 0) (h1 : f1.type = ti ∧ f1.offset = 1)
    (hi : P.underlying ti = some (.int .i64)) (c1 : P.cellsOf ti = 1) (h : DataW.trod enc P w base spare held fuel t cs = some x) : ∃ a b, cs = [.int .i64 a, .int .i64 b] := by
  obtain ⟨xs, n, rfl, rfl, hl, hn, hf⟩ := DataW.trod_struct ht h
  have e0 := hf 0 f0 rfl
  have e1 := hf 1 f1 rfl
  rw [h0.1, h0.2, c1] at e0
  rw [h1.1, h1.2, c1] at e1
  rw [hC] at hl
  match cs, hl with
  | [u0, u1], _ =>
    match xs, hn with
    | [x0, x1], _ =>
      obtain ⟨a, j0, _, _⟩ := DataW.trod_int hi (show DataW.trod enc P w base spare held n ti _ = some x0 from e0)
      obtain ⟨b, j1, _, _⟩ := DataW.trod_int hi (show DataW.trod enc P w base spare held n ti _ = some x1 from e1)
      simp at j0 j1
      subst j0 j1
      exact ⟨a, b, rfl⟩
end
end Go.Em
