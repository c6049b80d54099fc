/- Whatever ashes it is called with, gyttjalaw04.AshCommons returns true: the values that all their grains may have, and whether two neighbours may be alike, are those of the document. Condition: the variable noValues of package ash holds, when the call begins, what the program's text lays in it (the card ties this to the text). -/
import Derived.Test.YtnfhgnbniajhoaaDoorIn
import Derived.Test.YtnfhgnbniajhoaaDoorLaw
namespace Go.Proofs.YtnfhgnbniajhoaaDoor
open Go Go.Em Go.RowKit Go.ChangeShapes Go.ChangeAt Go.WideShapes Go.Joins
set_option maxRecDepth 100000
theorem ashCommons_lifted (os : Os) (started : os.Started) (H : Type) (enc : TypeId × Value → H) :
    ReturnsInHanded {} Tryd.checked os 3 .any (fun w args => (Rows.ashCommonsSpec.pre enc Tryd.prog Tryd.f3 [] false w args ∧ laidMetH Tryd.prog laid1 w) ∧ sizedMet enc Tryd.prog Tryd.f3 (OpenSpec.ofChange Rows.ashCommonsSpec) false w args)
      (Rows.ashCommonsSpec.post enc Tryd.prog Tryd.f3 false true false false) := by
  refine returnsInHanded_of_change_and (C := Tryd.checked) (X := fun w _ => laidMetH Tryd.prog laid1 w) (fun _ _ _ hh h => h.of_heap hh) own started (by kernel_rfl) Tryd.func3
    (ChangeSpec.witness_shaped (enc := enc) (C := Tryd.checked) (os := os) (X := fun w _ => laidMetH Tryd.prog laid1 w) false (World.doorLaid Tryd.prog 400 os)
      #[.slice none 0 0] 8 rfl (World.shaped_of_RefB (by kernel_rfl) (by kernel_rfl)) (by kernel_rfl) (by kernel_rfl) (by kernel_rfl) (door_met os _)) ?_
  intro W base args ds gs before hval0 hW _ _ hL _
  have hW' := hW
  obtain ⟨p, q, hA, hV, _, _, _⟩ := hW
  have hval : ∀ (j : Nat) t v, Tryd.f3.params[j]? = some t → args[j]? = some v → Value.okWide Tryd.prog W .any base t v := hval0
  rw [Tryd.params3] at hA hval
  obtain ⟨v0, d0, rfl, rfl, h0⟩ := trodAll_one hA
  obtain ⟨rfl, rfl⟩ := trodVars_none hV
  obtain ⟨l0, q0, e0⟩ := ashes_in (hval 0 22 v0 rfl rfl) h0
  refine (calls_of_from (vs := [v0]) pg_ok gl_pure (l0.length + 200) (fun n hn => commons_law l0 q0 hn) (words_in hL) (.cons _ _ _ _ e0 .nil)).mono fun e W' ⟨he, hb⟩ => ?_
  exact ⟨_, he, post_true (tb := 4) laidOk (by kernel_rfl) rfl hW' rfl rfl Tryd.underlying4 hb⟩

theorem ashCommons_holds : Rows.AshCommonsSaid :=
  OpenClaim.holds_of_wide 3 Tryd.f3 rfl rfl rfl rfl rfl rfl rfl ⟨rfl, rfl, rfl, rfl, rfl⟩ rfl rfl rfl rfl rfl (by kernel_rfl) Tryd.func3 (by kernel_rfl)
    (of_decide_eq_true (by kernel_rfl)) (by unfold Func.isWrapper; rw [if_neg (of_decide_eq_false (by kernel_rfl))]; exact ⟨rfl, rfl⟩)
    (fun os started H enc _ => ashCommons_lifted os started H enc)

theorem ashCommons_card : Rows.AshCommonsCardSaid :=
  Claim7.holds_tied_plain_at .later [] [.data] true Rows.ashCommonsCard.stood.harness false
    ashCommons_holds (fun _ h => by cases h) (by kernel_rfl) (fun _ h => by cases h) ashCommons_row_tie rfl ⟨rfl, rfl⟩ (by kernel_rfl) rfl
    (fun f fn hf hfn => by
      obtain rfl : f = 3 := Option.some.inj ((show Tryd.prog.funcNamed "gyttja/gyttjalaw04.AshCommons" = some 3 by kernel_rfl).symm.trans hf) |>.symm
      obtain rfl : fn = Tryd.f3 := (Option.some.inj (Tryd.func3.symm.trans hfn)).symm
      exact ⟨by kernel_rfl, fun j t ht => by
        rw [Tryd.params3] at ht
        have hm : t ∈ [22] := by simpa using Array.mem_of_getElem? ht
        have hall : ([22].all fun u => !Tryd.prog.wantsStandIn u) = true := by kernel_rfl
        exact (show Tryd.prog.wantsStandIn t = false by simpa using List.all_eq_true.1 hall t hm)⟩)
    (by kernel_rfl)
#print axioms ashCommons_card
end Go.Proofs.YtnfhgnbniajhoaaDoor
