/- Whatever row, sheet and three numbers it is called with, gyttjalaw01.SheetRows returns true: the validity of rows and sheets, the errors, the marks and their places are the document's own. Condition: the table of words of package sheet holds, when the call begins, what the program's text lays in it (the card ties this to the text). -/
import Derived.Test.YtkdcoldkncpkoaaDoorOk
import Derived.Test.YtkdcoldkncpkoaaDoorRowsLaw
import Derived.Test.YtkdcoldkncpkoaaDoorCards
import Derived.SevenTiedAt
namespace Go.Proofs.YtkdcoldkncpkoaaDoor
open Go Go.Em Go.RowKit Go.ChangeShapes Go.ChangeAt Go.WideShapes Go.Joins
set_option maxRecDepth 100000
theorem size23 : Tryd.prog.cellsOf 23 = 3 := by kernel_rfl
theorem size26 : Tryd.prog.cellsOf 26 = 4 := by kernel_rfl
theorem size27 : Tryd.prog.cellsOf 27 = 3 := by kernel_rfl
theorem cells26 : Tryd.prog.cellTypes Tryd.prog.depth 26 = some [3, 3, 3, 24] := by kernel_rfl
def toRw (p : I3) : Rw := ⟨p.1, p.2.1, p.2.2⟩
theorem trip_rows (l : List I3) : D.sl false (l.map tripD) = rowsD (l.map toRw) := by
  unfold rowsD; rw [List.map_map]; rfl
section
variable {H : Type} {enc : TypeId × Value → H} {W : World} {base : Nat} {r : Reach} {b0 : Nat} {spare : Nat → Bool} {held : Bool} {v : Value} {d : DataW H} {p : List MemPlace}
/-- A row, as the evaluator sees it. -/
theorem row_in (hv : Value.okWide Tryd.prog W r b0 23 v) (h : DataW.Trod enc Tryd.prog W base spare held 23 v d p) : ∃ q, Den (ctxOf W) v (rowD q) := by
  obtain ⟨u0, u1, u2, y0, y1, y2, n, rfl, _, _, k0, k1, k2⟩ := open_agg3 Tryd.underlying23 (by kernel_rfl) size23 hv h
  obtain ⟨a, j0, _, _⟩ := DataW.trod_int Tryd.underlying3 (show DataW.trod enc Tryd.prog W base spare held n 3 [u0] = some y0 from k0)
  obtain ⟨b, j1, _, _⟩ := DataW.trod_int Tryd.underlying3 (show DataW.trod enc Tryd.prog W base spare held n 3 [u1] = some y1 from k1)
  obtain ⟨c, j2, _, _⟩ := DataW.trod_int Tryd.underlying3 (show DataW.trod enc Tryd.prog W base spare held n 3 [u2] = some y2 from k2)
  cases j0; cases j1; cases j2
  exact ⟨⟨a, b, c⟩, .agg [_, _, _] _ (.cons _ _ _ _ (.val _ rfl) (.cons _ _ _ _ (.val _ rfl) (.cons _ _ _ _ (.val _ rfl) .nil)))⟩
/-- A sheet. -/
theorem sheet_in (hv : Value.okWide Tryd.prog W r b0 26 v) (h : DataW.Trod enc Tryd.prog W base spare held 26 v d p) : ∃ i rd c l, Den (ctxOf W) v (.agg (sheetC i rd c l)) := by
  obtain ⟨u0, u1, u2, u3, y0, y1, y2, y3, n, rfl, _, _, k0, k1, k2, k3⟩ := open_agg4 Tryd.underlying26 (by kernel_rfl) size26 hv h
  obtain ⟨a, j0, _, _⟩ := DataW.trod_int Tryd.underlying3 (show DataW.trod enc Tryd.prog W base spare held n 3 [u0] = some y0 from k0)
  obtain ⟨b, j1, _, _⟩ := DataW.trod_int Tryd.underlying3 (show DataW.trod enc Tryd.prog W base spare held n 3 [u1] = some y1 from k1)
  obtain ⟨c, j2, _, _⟩ := DataW.trod_int Tryd.underlying3 (show DataW.trod enc Tryd.prog W base spare held n 3 [u2] = some y2 from k2)
  cases j0; cases j1; cases j2
  have hok : Cell.okWide Tryd.prog W r b0 24 u3 := field_ok Tryd.underlying26 hv cells26 (i := 3) rfl rfl
  obtain ⟨l, hl⟩ := rows_den Tryd.underlying24 Tryd.underlying23 size23 ⟨rfl, rfl⟩ ⟨rfl, rfl⟩ ⟨rfl, rfl⟩ Tryd.underlying3 size3 hok (show DataW.trod enc Tryd.prog W base spare held n 24 [u3] = some y3 from k3)
  rw [trip_rows] at hl
  exact ⟨a, b, c, l.map toRw, .agg [_, _, _, _] _ (.cons _ _ _ _ (.val _ rfl) (.cons _ _ _ _ (.val _ rfl) (.cons _ _ _ _ (.val _ rfl) (.cons _ _ _ _ hl .nil))))⟩
/-- Three numbers. -/
theorem three_in (hv : Value.okWide Tryd.prog W r b0 27 v) (h : DataW.Trod enc Tryd.prog W base spare held 27 v d p) : ∃ a b c, Den (ctxOf W) v (.agg [D.int a, D.int b, D.int c]) := by
  obtain ⟨cs, rfl⟩ := agg_of_array Tryd.underlying27 hv
  obtain ⟨fuel, hf⟩ := h
  obtain ⟨a, b, c, hcs⟩ := arr3_read Tryd.underlying27 size27 Tryd.underlying3 size3 hf
  obtain ⟨l⟩ := cs
  have hl : l = [.int .i64 a, .int .i64 b, .int .i64 c] := hcs
  subst hl
  exact ⟨a, b, c, .agg [_, _, _] _ (.cons _ _ _ _ (.val _ rfl) (.cons _ _ _ _ (.val _ rfl) (.cons _ _ _ _ (.val _ rfl) .nil)))⟩
end

theorem rows_lifted (os : Os) (started : os.Started) (H : Type) (enc : TypeId × Value → H) :
    ReturnsInHanded {} Tryd.checked os 3 .any (fun w args => (Rows.sheetRowsSpec.pre enc Tryd.prog Tryd.f3 [] false w args ∧ laidMetH Tryd.prog laid1 w) ∧ sizedMet enc Tryd.prog Tryd.f3 (OpenSpec.ofChange Rows.sheetRowsSpec) false w args)
      (Rows.sheetRowsSpec.post enc Tryd.prog Tryd.f3 false true false false) := by
  refine returnsInHanded_of_change_and (C := Tryd.checked) (X := fun w _ => laidMetH Tryd.prog laid1 w) (fun _ _ _ hh h => h.of_heap hh) own started (by kernel_rfl) Tryd.func3
    (ChangeSpec.witness_shaped (enc := enc) (C := Tryd.checked) (os := os) (X := fun w _ => laidMetH Tryd.prog laid1 w) false (World.doorLaid Tryd.prog 400 os)
      #[.agg #[.int .i64 0, .int .i64 0, .int .i64 0], .agg #[.int .i64 0, .int .i64 0, .int .i64 0, .slice none 0 0], .agg #[.int .i64 0, .int .i64 0, .int .i64 0]] 8 rfl (World.shaped_of_RefB (by kernel_rfl) (by kernel_rfl)) (by kernel_rfl) (by kernel_rfl) (by kernel_rfl) (door_met os _)) ?_
  intro W base args ds gs before hval0 hW _ _ hL _
  have hW' := hW
  obtain ⟨p, q, hA, hV, _, _, _⟩ := hW
  have hval : ∀ (j : Nat) t v, Tryd.f3.params[j]? = some t → args[j]? = some v → Value.okWide Tryd.prog W .any base t v := hval0
  rw [Tryd.params3] at hA hval
  obtain ⟨v0, v1, v2, d0, d1, d2, p0, p1, p2, rfl, rfl, _, h0, h1, h2⟩ := trodAll_three hA
  obtain ⟨rfl, rfl⟩ := trodVars_none hV
  obtain ⟨w, hw⟩ := row_in (hval 0 23 v0 rfl rfl) h0
  obtain ⟨i, rd, c, l, hs⟩ := sheet_in (hval 1 26 v1 rfl rfl) h1
  obtain ⟨a0, a1, a2, ha⟩ := three_in (hval 2 27 v2 rfl rfl) h2
  refine (calls_of_from (vs := [v0, v1, v2]) pg_ok gl_pure (l.length + 500) (fun n hn => rows_law w i rd c l a0 a1 a2 hn) (words_in hL) (.cons _ _ _ _ hw (.cons _ _ _ _ hs (.cons _ _ _ _ ha .nil)))).mono fun e W' ⟨he, hb⟩ => ?_
  exact ⟨_, he, post_true (tb := 4) laidOk (by kernel_rfl) rfl hW' rfl rfl Tryd.underlying4 hb⟩

theorem sheetRows_holds : Rows.SheetRowsSaid :=
  OpenClaim.holds_of_wide 3 Tryd.f3 rfl rfl rfl rfl rfl rfl rfl ⟨rfl, rfl, rfl, rfl, rfl⟩ rfl rfl rfl rfl rfl (by kernel_rfl) Tryd.func3 (by kernel_rfl)
    (of_decide_eq_true (by kernel_rfl)) (by unfold Func.isWrapper; rw [if_neg (of_decide_eq_false (by kernel_rfl))]; exact ⟨rfl, rfl⟩)
    (fun os started H enc _ => rows_lifted os started H enc)

theorem sheetRows_card : Rows.SheetRowsCardSaid :=
  Claim7.holds_tied_plain_at .later [] [.data] true Rows.sheetRowsCard.stood.harness true
    sheetRows_holds (fun _ h => by cases h) (by kernel_rfl) (fun _ h => by cases h) sheetRows_row_tie rfl ⟨rfl, rfl⟩ (by kernel_rfl) rfl
    (fun f fn hf hfn => by
      obtain rfl : f = 3 := Option.some.inj ((show Tryd.prog.funcNamed "gyttja/gyttjalaw01.SheetRows" = some 3 by kernel_rfl).symm.trans hf) |>.symm
      obtain rfl : fn = Tryd.f3 := (Option.some.inj (Tryd.func3.symm.trans hfn)).symm
      exact ⟨by kernel_rfl, fun j t ht => by
        rw [Tryd.params3] at ht
        have hm : t ∈ [23, 26, 27] := by simpa using Array.mem_of_getElem? ht
        have hall : ([23, 26, 27].all fun u => !Tryd.prog.wantsStandIn u) = true := by kernel_rfl
        exact (show Tryd.prog.wantsStandIn t = false by simpa using List.all_eq_true.1 hall t hm)⟩)
    (by kernel_rfl)
#print axioms sheetRows_card
end Go.Proofs.YtkdcoldkncpkoaaDoor
