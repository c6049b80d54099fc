/- Arguments of the laws, as the evaluator sees them. -/
import Derived.Test.YtomiigdpggeacaaDoorOk
import Derived.Test.YtomiigdpggeacaaDoorRowsLaw
import Derived.Test.YtomiigdpggeacaaDoorCards
import Derived.SevenTiedAt
namespace Go.Proofs.YtomiigdpggeacaaDoor
open Go Go.Em Go.RowKit Go.ChangeShapes Go.ChangeAt Go.WideShapes Go.Joins
set_option maxRecDepth 100000
theorem size71 : Tryd.prog.cellsOf 71 = 3 := by kernel_rfl
theorem size25 : Tryd.prog.cellsOf 25 = 4 := by kernel_rfl
theorem size34 : Tryd.prog.cellsOf 34 = 2 := by kernel_rfl
theorem cells25 : Tryd.prog.cellTypes Tryd.prog.depth 25 = some [3, 3, 3, 23] := by kernel_rfl
def toRw (p : I3) : Rw := ⟨p.1, p.2.1, p.2.2⟩
theorem trip_rows (l : List I3) : D.sl false (l.map tripD) = rowsD (l.map toRw) := by
  unfold rowsD; rw [List.map_map]; rfl
section
variable {H : Type} {enc : TypeId × Value → H} {W : World} {base : Nat} {r : Reach} {b0 : Nat} {spare : Nat → Bool} {held : Bool} {v : Value} {d : DataW H} {p : List MemPlace}
/-- A row, as the evaluator sees it. -/
theorem row_in (hv : Value.okWide Tryd.prog W r b0 71 v) (h : DataW.Trod enc Tryd.prog W base spare held 71 v d p) : ∃ q, Den (ctxOf W) v (rowD q) := by
  obtain ⟨u0, u1, u2, y0, y1, y2, n, rfl, _, _, k0, k1, k2⟩ := open_agg3 Tryd.underlying71 (by kernel_rfl) size71 hv h
  obtain ⟨a, j0, _, _⟩ := DataW.trod_int Tryd.underlying3 (show DataW.trod enc Tryd.prog W base spare held n 3 [u0] = some y0 from k0)
  obtain ⟨b, j1, _, _⟩ := DataW.trod_int Tryd.underlying3 (show DataW.trod enc Tryd.prog W base spare held n 3 [u1] = some y1 from k1)
  obtain ⟨c, j2, _, _⟩ := DataW.trod_int Tryd.underlying3 (show DataW.trod enc Tryd.prog W base spare held n 3 [u2] = some y2 from k2)
  cases j0; cases j1; cases j2
  exact ⟨⟨a, b, c⟩, .agg [_, _, _] _ (.cons _ _ _ _ (.val _ rfl) (.cons _ _ _ _ (.val _ rfl) (.cons _ _ _ _ (.val _ rfl) .nil)))⟩
/-- A sheet. -/
theorem sheet_in (hv : Value.okWide Tryd.prog W r b0 25 v) (h : DataW.Trod enc Tryd.prog W base spare held 25 v d p) : ∃ i rd c l, Den (ctxOf W) v (.agg (sheetC i rd c l)) := by
  obtain ⟨u0, u1, u2, u3, y0, y1, y2, y3, n, rfl, _, _, k0, k1, k2, k3⟩ := open_agg4 Tryd.underlying25 (by kernel_rfl) size25 hv h
  obtain ⟨a, j0, _, _⟩ := DataW.trod_int Tryd.underlying3 (show DataW.trod enc Tryd.prog W base spare held n 3 [u0] = some y0 from k0)
  obtain ⟨b, j1, _, _⟩ := DataW.trod_int Tryd.underlying3 (show DataW.trod enc Tryd.prog W base spare held n 3 [u1] = some y1 from k1)
  obtain ⟨c, j2, _, _⟩ := DataW.trod_int Tryd.underlying3 (show DataW.trod enc Tryd.prog W base spare held n 3 [u2] = some y2 from k2)
  cases j0; cases j1; cases j2
  have hok : Cell.okWide Tryd.prog W r b0 23 u3 := field_ok Tryd.underlying25 hv cells25 (i := 3) rfl rfl
  obtain ⟨l, hl⟩ := rows_den Tryd.underlying23 Tryd.underlying71 size71 ⟨rfl, rfl⟩ ⟨rfl, rfl⟩ ⟨rfl, rfl⟩ Tryd.underlying3 size3 hok (show DataW.trod enc Tryd.prog W base spare held n 23 [u3] = some y3 from k3)
  rw [trip_rows] at hl
  exact ⟨a, b, c, l.map toRw, .agg [_, _, _, _] _ (.cons _ _ _ _ (.val _ rfl) (.cons _ _ _ _ (.val _ rfl) (.cons _ _ _ _ (.val _ rfl) (.cons _ _ _ _ hl .nil))))⟩
theorem rows_in (hv : Value.okWide Tryd.prog W r b0 23 v) (h : DataW.Trod enc Tryd.prog W base spare held 23 v d p) : ∃ l, Den (ctxOf W) v (rowsD l) := by
  obtain ⟨a, len, cap, rfl⟩ := okWide_slice Tryd.underlying23 hv
  obtain ⟨fuel, hf⟩ := h
  have hok : Cell.okWide Tryd.prog W r b0 23 (.slice a len cap) := by
    simpa only [Value.okWide, Tryd.underlying23] using hv
  obtain ⟨l, hl⟩ := rows_den Tryd.underlying23 Tryd.underlying71 size71 ⟨rfl, rfl⟩ ⟨rfl, rfl⟩ ⟨rfl, rfl⟩ Tryd.underlying3 size3 hok hf
  rw [trip_rows] at hl
  exact ⟨l.map toRw, hl⟩
theorem ints_in (hv : Value.okWide Tryd.prog W r b0 48 v) (h : DataW.Trod enc Tryd.prog W base spare held 48 v d p) : ∃ l, Den (ctxOf W) v (intsD l) := by
  obtain ⟨a, len, cap, rfl⟩ := okWide_slice Tryd.underlying48 hv
  obtain ⟨fuel, hf⟩ := h
  have hok : Cell.okWide Tryd.prog W r b0 48 (.slice a len cap) := by
    simpa only [Value.okWide, Tryd.underlying48] using hv
  exact ints_den Tryd.underlying48 Tryd.underlying3 size3 hok hf
theorem arr2_read {P : Program} {w : World} {t ti : TypeId} {fuel : Nat} {cs : List Value} {x : DataW H × List MemPlace} (ht : P.underlying t = some (.array 2 ti)) (hC : P.cellsOf t = 2)
    (hi : P.underlying ti = some (.int .i64)) (c1 : P.cellsOf ti = 1) (h : DataW.trod enc P w base spare held fuel t cs = some x) : ∃ a b, cs = [.int .i64 a, .int .i64 b] := by
  obtain ⟨xs, n, rfl, rfl, hl, hn, hf⟩ := DataW.trod_array ht h
  have e0 := hf 0 (by omega)
  have e1 := hf 1 (by omega)
  rw [c1] at e0 e1
  rw [hC] at hl
  match cs, hl with
  | [u0, u1], _ =>
    match xs, hn with
    | [x0, x1], _ =>
      obtain ⟨a, j0, _, _⟩ := DataW.trod_int hi (show DataW.trod enc P w base spare held n ti _ = some x0 from e0)
      obtain ⟨b, j1, _, _⟩ := DataW.trod_int hi (show DataW.trod enc P w base spare held n ti _ = some x1 from e1)
      simp at j0 j1
      subst j0 j1
      exact ⟨a, b, rfl⟩
/-- Two numbers. -/
theorem two_in (hv : Value.okWide Tryd.prog W r b0 34 v) (h : DataW.Trod enc Tryd.prog W base spare held 34 v d p) : ∃ a b, Den (ctxOf W) v (.agg [D.int a, D.int b]) := by
  obtain ⟨cs, rfl⟩ := agg_of_array Tryd.underlying34 hv
  obtain ⟨fuel, hf⟩ := h
  obtain ⟨a, b, hcs⟩ := arr2_read Tryd.underlying34 size34 Tryd.underlying3 size3 hf
  obtain ⟨l⟩ := cs
  have hl : l = [.int .i64 a, .int .i64 b] := hcs
  subst hl
  exact ⟨a, b, .agg [_, _] _ (.cons _ _ _ _ (.val _ rfl) (.cons _ _ _ _ (.val _ rfl) .nil))⟩
end
end Go.Proofs.YtomiigdpggeacaaDoor
