/- Whatever world and years it is called with, gyttjalaw05.CasesKeeps returns true: CheckChronology agrees with the document's own. Conditions: the two tables that the program text lays hold, when the call begins, what the text lays in them. -/
import Derived.Test.YtlfknfknlcgfcaaGreatDoorIn
import Derived.Test.YtlfknfknlcgfcaaGreatDoorYin
import Derived.Test.YtlfknfknlcgfcaaGreatDoorYin
import Derived.Test.YtlfknfknlcgfcaaGreatDoorVi
namespace Go.Proofs.YtlfknfknlcgfcaaGreatDoor
open Go Go.Em Go.RowKit Go.ChangeShapes Go.ChangeAt Go.WideShapes Go.Joins
set_option maxRecDepth 100000
theorem casesKeeps_lifted (os : Os) (started : os.Started) (H : Type) (enc : TypeId × Value → H) :
    ReturnsInHanded {} Tryz.checked os 9 .any (fun w args => (Rows.casesKeepsSpec.pre enc Tryz.prog Tryz.f9 [] false w args ∧ laidMetH Tryz.prog laid1 w) ∧ sizedMet enc Tryz.prog Tryz.f9 (OpenSpec.ofChange Rows.casesKeepsSpec) false w args)
      (Rows.casesKeepsSpec.post enc Tryz.prog Tryz.f9 false true false false) := by
  refine returnsInHanded_of_change_and (C := Tryz.checked) (X := fun w _ => laidMetH Tryz.prog laid1 w) (fun _ _ _ hh h => h.of_heap hh) own started (by kernel_rfl) Tryz.func9
    (ChangeSpec.witness_shaped (enc := enc) (C := Tryz.checked) (os := os) (X := fun w _ => laidMetH Tryz.prog laid1 w) false (World.doorLaid Tryz.prog 400 os)
      #[.agg #[.slice none 0 0, .slice none 0 0], .slice none 0 0] 8 rfl (World.shaped_of_RefB (by kernel_rfl) (by kernel_rfl)) (by kernel_rfl) (by kernel_rfl) (by kernel_rfl) (door_met os _)) ?_
  intro W base args ds gs before hval0 hW _ hsz hL _
  have hW' := hW
  obtain ⟨p, q, hA, hV, _, _, _⟩ := hW
  have hval : ∀ (j : Nat) t v, Tryz.f9.params[j]? = some t → args[j]? = some v → Value.okWide Tryz.prog W .any base t v := hval0
  rw [Tryz.params9] at hA hval hsz
  obtain ⟨v0, v1, d0, d1, p0, p1, rfl, rfl, _, h0, h1⟩ := trodAll_two hA
  obtain ⟨rfl, rfl⟩ := trodVars_none hV
  obtain ⟨w0, z0, e0⟩ := world_in (hval 0 25 v0 rfl rfl) h0
  obtain ⟨l1, q1, w1, e1⟩ := dated_in (hval 1 62 v1 rfl rfl) h1
  have hz0 : (d0.weights Tryz.prog 25).all (· ≤ reachBytes) = true := by
    have := hsz
    simp only [List.cons_append, List.nil_append, List.append_nil, DataW.weightsEach, List.all_append, Bool.and_eq_true] at this
    exact this.1
  have hz1 : (d1.weights Tryz.prog 62).all (· ≤ reachBytes) = true := by
    have := hsz
    simp only [List.cons_append, List.nil_append, List.append_nil, DataW.weightsEach, List.all_append, Bool.and_eq_true] at this
    exact this.2.1
  have b1 := w1 hz1
  rw [bytes73] at b1
  refine (calls_of_from (vs := [v0, v1]) pg_ok gl_pure (200000000000000) (fun n hn => keeps_all w0 l1 (z0 hz0) b1 hn) (words_in hL) (.cons _ _ _ _ e0 (.cons _ _ _ _ e1 .nil))).mono fun e W' ⟨he, hb⟩ => ?_
  exact ⟨_, he, post_true (tb := 4) laidOk (by kernel_rfl) rfl hW' rfl rfl Tryz.underlying4 hb⟩

theorem casesKeeps_holds : Rows.CasesKeepsSaid :=
  OpenClaim.holds_of_wide 9 Tryz.f9 rfl rfl rfl rfl rfl rfl rfl ⟨rfl, rfl, rfl, rfl, rfl⟩ rfl rfl rfl rfl rfl (by kernel_rfl) Tryz.func9 (by kernel_rfl)
    (of_decide_eq_true (by kernel_rfl)) (by unfold Func.isWrapper; rw [if_neg (of_decide_eq_false (by kernel_rfl))]; exact ⟨rfl, rfl⟩)
    (fun os started H enc _ => casesKeeps_lifted os started H enc)

theorem casesKeeps_card : Rows.CasesKeepsCardSaid :=
  Claim7.holds_tied_plain_at .later [] [.data, .data] true Rows.casesKeepsCard.stood.harness false
    casesKeeps_holds (fun _ h => by cases h) (by kernel_rfl) (fun _ h => by cases h) casesKeeps_row_tie rfl ⟨rfl, rfl⟩ (by kernel_rfl) rfl
    (fun f fn hf hfn => by
      obtain rfl : f = 9 := Option.some.inj ((show Tryz.prog.funcNamed "gyttja/gyttjalaw05.CasesKeeps" = some 9 by kernel_rfl).symm.trans hf) |>.symm
      obtain rfl : fn = Tryz.f9 := (Option.some.inj (Tryz.func9.symm.trans hfn)).symm
      exact ⟨by kernel_rfl, fun j t ht => by
        rw [Tryz.params9] at ht
        have hm : t ∈ [25, 62] := by simpa using Array.mem_of_getElem? ht
        have hall : ([25, 62].all fun u => !Tryz.prog.wantsStandIn u) = true := by kernel_rfl
        exact (show Tryz.prog.wantsStandIn t = false by simpa using List.all_eq_true.1 hall t hm)⟩)
    (by kernel_rfl)
#print axioms casesKeeps_card
end Go.Proofs.YtlfknfknlcgfcaaGreatDoor
