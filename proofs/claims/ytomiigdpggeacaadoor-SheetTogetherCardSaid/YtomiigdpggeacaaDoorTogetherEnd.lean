/- Whatever two sheets and number it is called with, gyttjalaw01.SheetTogether returns true: a number of years that both sheets (of at most 60 rows each) allow between neighbouring marks that both have lies in a span of Meet, and where Apart tells a span there is no such number. Condition: the table of words of package sheet holds, when the call begins, what the program text lays in it (the card ties this to the text). -/
import Derived.Test.YtomiigdpggeacaaDoorIn
import Derived.Test.YtomiigdpggeacaaDoorTogether
namespace Go.Proofs.YtomiigdpggeacaaDoor
open Go Go.Em Go.RowKit Go.ChangeShapes Go.ChangeAt Go.WideShapes Go.Joins
set_option maxRecDepth 100000
theorem sheetTogether_lifted (os : Os) (started : os.Started) (H : Type) (enc : TypeId × Value → H) :
    ReturnsInHanded {} Tryd.checked os 9 .any (fun w args => (Rows.sheetTogetherSpec.pre enc Tryd.prog Tryd.f9 [] false w args ∧ laidMetH Tryd.prog laid1 w) ∧ sizedMet enc Tryd.prog Tryd.f9 (OpenSpec.ofChange Rows.sheetTogetherSpec) false w args)
      (Rows.sheetTogetherSpec.post enc Tryd.prog Tryd.f9 false true false false) := by
  refine returnsInHanded_of_change_and (C := Tryd.checked) (X := fun w _ => laidMetH Tryd.prog laid1 w) (fun _ _ _ hh h => h.of_heap hh) own started (by kernel_rfl) Tryd.func9
    (ChangeSpec.witness_shaped (enc := enc) (C := Tryd.checked) (os := os) (X := fun w _ => laidMetH Tryd.prog laid1 w) false (World.doorLaid Tryd.prog 400 os)
      #[.agg #[.int .i64 0, .int .i64 0, .int .i64 0, .slice none 0 0], .agg #[.int .i64 0, .int .i64 0, .int .i64 0, .slice none 0 0], .int .i64 0] 8 rfl (World.shaped_of_RefB (by kernel_rfl) (by kernel_rfl)) (by kernel_rfl) (by kernel_rfl) (by kernel_rfl) (door_met os _)) ?_
  intro W base args ds gs before hval0 hW _ _ hL _
  have hW' := hW
  obtain ⟨p, q, hA, hV, _, _, _⟩ := hW
  have hval : ∀ (j : Nat) t v, Tryd.f9.params[j]? = some t → args[j]? = some v → Value.okWide Tryd.prog W .any base t v := hval0
  rw [Tryd.params9] at hA hval
  obtain ⟨v0, v1, v2, d0, d1, d2, p0, p1, p2, rfl, rfl, _, h0, h1, h2⟩ := trodAll_three hA
  obtain ⟨rfl, rfl⟩ := trodVars_none hV
  obtain ⟨i0, r0, c0, l0, e0⟩ := sheet_in (hval 0 25 v0 rfl rfl) h0
  obtain ⟨i1, r1, c1, l1, e1⟩ := sheet_in (hval 1 25 v1 rfl rfl) h1
  obtain ⟨a2, rfl, _, _, _⟩ := open_int Tryd.underlying3 (hval 2 3 v2 rfl rfl) h2
  refine (calls_of_from (vs := [v0, v1, .int .i64 a2]) pg_ok gl_pure (5000) (fun n hn => together_law i0 r0 c0 l0 i1 r1 c1 l1 a2 hn) (words_in hL) (.cons _ _ _ _ e0 (.cons _ _ _ _ e1 (.cons _ _ _ _ (.val _ rfl) .nil)))).mono fun e W' ⟨he, hb⟩ => ?_
  exact ⟨_, he, post_true (tb := 4) laidOk (by kernel_rfl) rfl hW' rfl rfl Tryd.underlying4 hb⟩

theorem sheetTogether_holds : Rows.SheetTogetherSaid :=
  OpenClaim.holds_of_wide 9 Tryd.f9 rfl rfl rfl rfl rfl rfl rfl ⟨rfl, rfl, rfl, rfl, rfl⟩ rfl rfl rfl rfl rfl (by kernel_rfl) Tryd.func9 (by kernel_rfl)
    (of_decide_eq_true (by kernel_rfl)) (by unfold Func.isWrapper; rw [if_neg (of_decide_eq_false (by kernel_rfl))]; exact ⟨rfl, rfl⟩)
    (fun os started H enc _ => sheetTogether_lifted os started H enc)

theorem sheetTogether_card : Rows.SheetTogetherCardSaid :=
  Claim7.holds_tied_plain_at .later [] [.data] true Rows.sheetTogetherCard.stood.harness true
    sheetTogether_holds (fun _ h => by cases h) (by kernel_rfl) (fun _ h => by cases h) sheetTogether_row_tie rfl ⟨rfl, rfl⟩ (by kernel_rfl) rfl
    (fun f fn hf hfn => by
      obtain rfl : f = 9 := Option.some.inj ((show Tryd.prog.funcNamed "gyttja/gyttjalaw01.SheetTogether" = some 9 by kernel_rfl).symm.trans hf) |>.symm
      obtain rfl : fn = Tryd.f9 := (Option.some.inj (Tryd.func9.symm.trans hfn)).symm
      exact ⟨by kernel_rfl, fun j t ht => by
        rw [Tryd.params9] at ht
        have hm : t ∈ [25, 25, 3] := by simpa using Array.mem_of_getElem? ht
        have hall : ([25, 25, 3].all fun u => !Tryd.prog.wantsStandIn u) = true := by kernel_rfl
        exact (show Tryd.prog.wantsStandIn t = false by simpa using List.all_eq_true.1 hall t hm)⟩)
    (by kernel_rfl)
#print axioms sheetTogether_card
end Go.Proofs.YtomiigdpggeacaaDoor
