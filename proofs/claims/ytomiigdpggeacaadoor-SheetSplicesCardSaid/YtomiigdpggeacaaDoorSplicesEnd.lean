/- Whatever sheet, rows and numbers it is called with, gyttjalaw01.SheetSplices returns true: of a sheet of at most 60 rows, what stands between two marks, put there again, is the sheet; other rows (at most 60), put there, stand there, or are refused as the document says; years outside do not change. Condition: the table of words of package sheet holds, when the call begins, what the program text lays in it (the card ties this to the text). -/
import Derived.Test.YtomiigdpggeacaaDoorIn
import Derived.Test.YtomiigdpggeacaaDoorSpliceLaw
namespace Go.Proofs.YtomiigdpggeacaaDoor
open Go Go.Em Go.RowKit Go.ChangeShapes Go.ChangeAt Go.WideShapes Go.Joins
set_option maxRecDepth 100000
theorem sheetSplices_lifted (os : Os) (started : os.Started) (H : Type) (enc : TypeId × Value → H) :
    ReturnsInHanded {} Tryd.checked os 8 .any (fun w args => (Rows.sheetSplicesSpec.pre enc Tryd.prog Tryd.f8 [] false w args ∧ laidMetH Tryd.prog laid1 w) ∧ sizedMet enc Tryd.prog Tryd.f8 (OpenSpec.ofChange Rows.sheetSplicesSpec) false w args)
      (Rows.sheetSplicesSpec.post enc Tryd.prog Tryd.f8 false true false false) := by
  refine returnsInHanded_of_change_and (C := Tryd.checked) (X := fun w _ => laidMetH Tryd.prog laid1 w) (fun _ _ _ hh h => h.of_heap hh) own started (by kernel_rfl) Tryd.func8
    (ChangeSpec.witness_shaped (enc := enc) (C := Tryd.checked) (os := os) (X := fun w _ => laidMetH Tryd.prog laid1 w) false (World.doorLaid Tryd.prog 400 os)
      #[.agg #[.int .i64 0, .int .i64 0, .int .i64 0, .slice none 0 0], .slice none 0 0, .agg #[.int .i64 0, .int .i64 0]] 8 rfl (World.shaped_of_RefB (by kernel_rfl) (by kernel_rfl)) (by kernel_rfl) (by kernel_rfl) (by kernel_rfl) (door_met os _)) ?_
  intro W base args ds gs before hval0 hW _ _ hL _
  have hW' := hW
  obtain ⟨p, q, hA, hV, _, _, _⟩ := hW
  have hval : ∀ (j : Nat) t v, Tryd.f8.params[j]? = some t → args[j]? = some v → Value.okWide Tryd.prog W .any base t v := hval0
  rw [Tryd.params8] at hA hval
  obtain ⟨v0, v1, v2, d0, d1, d2, p0, p1, p2, rfl, rfl, _, h0, h1, h2⟩ := trodAll_three hA
  obtain ⟨rfl, rfl⟩ := trodVars_none hV
  obtain ⟨i0, r0, c0, l0, e0⟩ := sheet_in (hval 0 25 v0 rfl rfl) h0
  obtain ⟨l1, e1⟩ := rows_in (hval 1 23 v1 rfl rfl) h1
  obtain ⟨a2, b2, e2⟩ := two_in (hval 2 34 v2 rfl rfl) h2
  refine (calls_of_from (vs := [v0, v1, v2]) pg_ok gl_pure (5000) (fun n hn => splices_law i0 r0 c0 l0 l1 a2 b2 hn) (words_in hL) (.cons _ _ _ _ e0 (.cons _ _ _ _ e1 (.cons _ _ _ _ e2 .nil)))).mono fun e W' ⟨he, hb⟩ => ?_
  exact ⟨_, he, post_true (tb := 4) laidOk (by kernel_rfl) rfl hW' rfl rfl Tryd.underlying4 hb⟩

theorem sheetSplices_holds : Rows.SheetSplicesSaid :=
  OpenClaim.holds_of_wide 8 Tryd.f8 rfl rfl rfl rfl rfl rfl rfl ⟨rfl, rfl, rfl, rfl, rfl⟩ rfl rfl rfl rfl rfl (by kernel_rfl) Tryd.func8 (by kernel_rfl)
    (of_decide_eq_true (by kernel_rfl)) (by unfold Func.isWrapper; rw [if_neg (of_decide_eq_false (by kernel_rfl))]; exact ⟨rfl, rfl⟩)
    (fun os started H enc _ => sheetSplices_lifted os started H enc)

theorem sheetSplices_card : Rows.SheetSplicesCardSaid :=
  Claim7.holds_tied_plain_at .later [] [.data] true Rows.sheetSplicesCard.stood.harness true
    sheetSplices_holds (fun _ h => by cases h) (by kernel_rfl) (fun _ h => by cases h) sheetSplices_row_tie rfl ⟨rfl, rfl⟩ (by kernel_rfl) rfl
    (fun f fn hf hfn => by
      obtain rfl : f = 8 := Option.some.inj ((show Tryd.prog.funcNamed "gyttja/gyttjalaw01.SheetSplices" = some 8 by kernel_rfl).symm.trans hf) |>.symm
      obtain rfl : fn = Tryd.f8 := (Option.some.inj (Tryd.func8.symm.trans hfn)).symm
      exact ⟨by kernel_rfl, fun j t ht => by
        rw [Tryd.params8] at ht
        have hm : t ∈ [25, 23, 34] := by simpa using Array.mem_of_getElem? ht
        have hall : ([25, 23, 34].all fun u => !Tryd.prog.wantsStandIn u) = true := by kernel_rfl
        exact (show Tryd.prog.wantsStandIn t = false by simpa using List.all_eq_true.1 hall t hm)⟩)
    (by kernel_rfl)
#print axioms sheetSplices_card
end Go.Proofs.YtomiigdpggeacaaDoor
