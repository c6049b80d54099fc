/- Arguments of the laws, as the evaluator sees them: a fraction; four numbers. -/
import Derived.Test.YtngjpeoloaeneaaGreatDoorOk
import Derived.Test.YtngjpeoloaeneaaGreatDoorEmFlat
import Derived.Test.YtngjpeoloaeneaaGreatDoorCards
import Derived.SevenTiedAt
namespace Go.Proofs.YtngjpeoloaeneaaGreatDoor
open Go Go.Em Go.RowKit Go.ChangeShapes Go.ChangeAt Go.WideShapes Go.Joins Go.Deep
set_option maxRecDepth 100000
theorem size36 : Tryz.prog.cellsOf 36 = 2 := by kernel_rfl
theorem size37 : Tryz.prog.cellsOf 37 = 4 := by kernel_rfl
section
variable {H : Type} {enc : TypeId × Value → H} {W : World} {base : Nat} {r : Reach} {b0 : Nat} {spare : Nat → Bool} {held : Bool} {v : Value} {d : DataW H} {p : List MemPlace}
theorem agg_struct {P : Program} {w : World} {t : TypeId} {fs : Array Field} {v : Value} (ht : P.underlying t = some (.struct fs)) (hv : Value.okWide P w r b0 t v) : ∃ cs, v = .agg cs := by
  simp only [Value.okWide, ht] at hv
  obtain ⟨cs, h, _⟩ := hv
  exact ⟨cs, h⟩
theorem agg_array {P : Program} {w : World} {t e : TypeId} {n : Nat} {v : Value} (ht : P.underlying t = some (.array n e)) (hv : Value.okWide P w r b0 t v) : ∃ cs, v = .agg cs := by
  simp only [Value.okWide, ht] at hv
  obtain ⟨cs, h, _⟩ := hv
  exact ⟨cs, h⟩
theorem arr4_read {P : Program} {w : World} {t ti : TypeId} {fuel : Nat} {cs : List Value} {x : DataW H × List MemPlace} (ht : P.underlying t = some (.array 4 ti)) (hC : P.cellsOf t = 4)
    (hi : P.underlying ti = some (.int .i64)) (c1 : P.cellsOf ti = 1) (h : DataW.trod enc P w base spare held fuel t cs = some x) : ∃ a b c d, cs = [.int .i64 a, .int .i64 b, .int .i64 c, .int .i64 d] := by
  obtain ⟨xs, n, rfl, rfl, hl, hn, hf⟩ := DataW.trod_array ht h
  have e0 := hf 0 (by omega)
  have e1 := hf 1 (by omega)
  have e2 := hf 2 (by omega)
  have e3 := hf 3 (by omega)
  rw [c1] at e0 e1 e2 e3
  rw [hC] at hl
  match cs, hl with
  | [u0, u1, u2, u3], _ =>
    match xs, hn with
    | [x0, x1, x2, x3], _ =>
      obtain ⟨a, j0, _, _⟩ := DataW.trod_int hi (show DataW.trod enc P w base spare held n ti _ = some x0 from e0)
      obtain ⟨b, j1, _, _⟩ := DataW.trod_int hi (show DataW.trod enc P w base spare held n ti _ = some x1 from e1)
      obtain ⟨c, j2, _, _⟩ := DataW.trod_int hi (show DataW.trod enc P w base spare held n ti _ = some x2 from e2)
      obtain ⟨d, j3, _, _⟩ := DataW.trod_int hi (show DataW.trod enc P w base spare held n ti _ = some x3 from e3)
      simp at j0 j1 j2 j3
      subst j0 j1 j2 j3
      exact ⟨a, b, c, d, rfl⟩
theorem frac_in (hv : Value.okWide Tryz.prog W r b0 36 v) (h : DataW.Trod enc Tryz.prog W base spare held 36 v d p) : ∃ a b, Den (ctxOf W) v (.agg [D.int a, D.int b]) := by
  obtain ⟨cs, rfl⟩ := agg_struct Tryz.underlying36 hv
  obtain ⟨fuel, hf⟩ := h
  obtain ⟨a, b, hcs⟩ := ints2_read Tryz.underlying36 size36 ⟨rfl, rfl⟩ ⟨rfl, rfl⟩ Tryz.underlying3 size3 hf
  obtain ⟨l⟩ := cs
  have hl : l = [.int .i64 a, .int .i64 b] := hcs
  subst hl
  exact ⟨a, b, .agg [_, _] _ (.cons _ _ _ _ (.val _ rfl) (.cons _ _ _ _ (.val _ rfl) .nil))⟩
theorem four_in (hv : Value.okWide Tryz.prog W r b0 37 v) (h : DataW.Trod enc Tryz.prog W base spare held 37 v d p) : ∃ a b c e, Den (ctxOf W) v (.agg [D.int a, D.int b, D.int c, D.int e]) := by
  obtain ⟨cs, rfl⟩ := agg_array Tryz.underlying37 hv
  obtain ⟨fuel, hf⟩ := h
  obtain ⟨a, b, c, d, hcs⟩ := arr4_read Tryz.underlying37 size37 Tryz.underlying3 size3 hf
  obtain ⟨l⟩ := cs
  have hl : l = [.int .i64 a, .int .i64 b, .int .i64 c, .int .i64 d] := hcs
  subst hl
  exact ⟨a, b, c, d, .agg [_, _, _, _] _ (.cons _ _ _ _ (.val _ rfl) (.cons _ _ _ _ (.val _ rfl) (.cons _ _ _ _ (.val _ rfl) (.cons _ _ _ _ (.val _ rfl) .nil))))⟩
end
end Go.Proofs.YtngjpeoloaeneaaGreatDoor
