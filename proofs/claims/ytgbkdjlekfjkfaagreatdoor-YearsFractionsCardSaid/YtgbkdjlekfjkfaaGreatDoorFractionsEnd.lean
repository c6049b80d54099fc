/- Whatever fractions and numbers it is called with, gyttjalaw06.YearsFractions returns true: Make, Cmp and Rate answer as the document says. Condition: the table of places of package math/bits, and the range of all years of package cases, hold, when the call begins, what the text of the program lays in them (the card ties this to the text). -/
import Derived.Test.YtgbkdjlekfjkfaaGreatDoorIn
import Derived.Test.YtgbkdjlekfjkfaaGreatDoorFc3
namespace Go.Proofs.YtgbkdjlekfjkfaaGreatDoor
open Go Go.Em Go.RowKit Go.ChangeShapes Go.ChangeAt Go.WideShapes Go.Joins
set_option maxRecDepth 100000
theorem yearsFractions_lifted (os : Os) (started : os.Started) (H : Type) (enc : TypeId × Value → H) :
    ReturnsInHanded {} Tryz.checked os 6 .any (fun w args => (Rows.yearsFractionsSpec.pre enc Tryz.prog Tryz.f6 [] false w args ∧ laidMetH Tryz.prog laid1 w) ∧ sizedMet enc Tryz.prog Tryz.f6 (OpenSpec.ofChange Rows.yearsFractionsSpec) false w args)
      (Rows.yearsFractionsSpec.post enc Tryz.prog Tryz.f6 false true false false) := by
  refine returnsInHanded_of_change_and (C := Tryz.checked) (X := fun w _ => laidMetH Tryz.prog laid1 w) (fun _ _ _ hh h => h.of_heap hh) own started (by kernel_rfl) Tryz.func6
    (ChangeSpec.witness_shaped (enc := enc) (C := Tryz.checked) (os := os) (X := fun w _ => laidMetH Tryz.prog laid1 w) false (World.doorLaid Tryz.prog 400 os)
      #[.agg #[.int .i64 0, .int .i64 0], .agg #[.int .i64 0, .int .i64 0], .agg #[.int .i64 0, .int .i64 0, .int .i64 0, .int .i64 0]] 8 rfl (World.shaped_of_RefB (by kernel_rfl) (by kernel_rfl)) (by kernel_rfl) (by kernel_rfl) (by kernel_rfl) (door_met os _)) ?_
  intro W base args ds gs before hval0 hW _ hsz hL _
  have hW' := hW
  obtain ⟨p, q, hA, hV, _, _, _⟩ := hW
  have hval : ∀ (j : Nat) t v, Tryz.f6.params[j]? = some t → args[j]? = some v → Value.okWide Tryz.prog W .any base t v := hval0
  rw [Tryz.params6] at hA hval hsz
  obtain ⟨v0, v1, v2, d0, d1, d2, p0, p1, p2, rfl, rfl, _, h0, h1, h2⟩ := trodAll_three hA
  obtain ⟨rfl, rfl⟩ := trodVars_none hV
  obtain ⟨x0, y0, e0⟩ := frac_in (hval 0 48 v0 rfl rfl) h0
  obtain ⟨x1, y1, e1⟩ := frac_in (hval 1 48 v1 rfl rfl) h1
  obtain ⟨x2, y2, z2, t2, e2⟩ := four_in (hval 2 49 v2 rfl rfl) h2
  refine (calls_of_from (vs := [v0, v1, v2]) pg_ok gl_pure (1000002000) (fun n hn => fracs_law x0 y0 x1 y1 x2 y2 z2 t2 hn) (words_in hL) (.cons _ _ _ _ e0 (.cons _ _ _ _ e1 (.cons _ _ _ _ e2 .nil)))).mono fun e W' ⟨he, hb⟩ => ?_
  exact ⟨_, he, post_true (tb := 4) laidOk (by kernel_rfl) rfl hW' rfl rfl Tryz.underlying4 hb⟩

theorem yearsFractions_holds : Rows.YearsFractionsSaid :=
  OpenClaim.holds_of_wide 6 Tryz.f6 rfl rfl rfl rfl rfl rfl rfl ⟨rfl, rfl, rfl, rfl, rfl⟩ rfl rfl rfl rfl rfl (by kernel_rfl) Tryz.func6 (by kernel_rfl)
    (of_decide_eq_true (by kernel_rfl)) (by unfold Func.isWrapper; rw [if_neg (of_decide_eq_false (by kernel_rfl))]; exact ⟨rfl, rfl⟩)
    (fun os started H enc _ => yearsFractions_lifted os started H enc)

theorem yearsFractions_card : Rows.YearsFractionsCardSaid :=
  Claim7.holds_tied_plain_at .later [] [.data, .data] true Rows.yearsFractionsCard.stood.harness false
    yearsFractions_holds (fun _ h => by cases h) (by kernel_rfl) (fun _ h => by cases h) yearsFractions_row_tie rfl ⟨rfl, rfl⟩ (by kernel_rfl) rfl
    (fun f fn hf hfn => by
      obtain rfl : f = 6 := Option.some.inj ((show Tryz.prog.funcNamed "gyttja/gyttjalaw06.YearsFractions" = some 6 by kernel_rfl).symm.trans hf) |>.symm
      obtain rfl : fn = Tryz.f6 := (Option.some.inj (Tryz.func6.symm.trans hfn)).symm
      exact ⟨by kernel_rfl, fun j t ht => by
        rw [Tryz.params6] at ht
        have hm : t ∈ [48, 48, 49] := by simpa using Array.mem_of_getElem? ht
        have hall : ([48, 48, 49].all fun u => !Tryz.prog.wantsStandIn u) = true := by kernel_rfl
        exact (show Tryz.prog.wantsStandIn t = false by simpa using List.all_eq_true.1 hall t hm)⟩)
    (by kernel_rfl)
#print axioms yearsFractions_card
end Go.Proofs.YtgbkdjlekfjkfaaGreatDoor
