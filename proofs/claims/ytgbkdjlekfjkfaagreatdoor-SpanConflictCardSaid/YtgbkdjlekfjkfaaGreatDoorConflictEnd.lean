/- Whatever claims and sources it is called with, gyttjalaw02.SpanConflict returns true: CheckConflict answers as the document says, and where it accepts, the claims of all other sources and any one of these have a chronology. Condition: the table of places of package math/bits holds, when the call begins, what the text of the program lays in it (the card ties this to the text). -/
import Derived.Test.YtgbkdjlekfjkfaaGreatDoorIn
import Derived.Test.YtgbkdjlekfjkfaaGreatDoorZc1
namespace Go.Proofs.YtgbkdjlekfjkfaaGreatDoor
open Go Go.Em Go.RowKit Go.ChangeShapes Go.ChangeAt Go.WideShapes Go.Joins
set_option maxRecDepth 100000
theorem spanConflict_lifted (os : Os) (started : os.Started) (H : Type) (enc : TypeId × Value → H) :
    ReturnsInHanded {} Tryz.checked os 5 .any (fun w args => (Rows.spanConflictSpec.pre enc Tryz.prog Tryz.f5 [] false w args ∧ laidMetH Tryz.prog laid1 w) ∧ sizedMet enc Tryz.prog Tryz.f5 (OpenSpec.ofChange Rows.spanConflictSpec) false w args)
      (Rows.spanConflictSpec.post enc Tryz.prog Tryz.f5 false true false false) := by
  refine returnsInHanded_of_change_and (C := Tryz.checked) (X := fun w _ => laidMetH Tryz.prog laid1 w) (fun _ _ _ hh h => h.of_heap hh) own started (by kernel_rfl) Tryz.func5
    (ChangeSpec.witness_shaped (enc := enc) (C := Tryz.checked) (os := os) (X := fun w _ => laidMetH Tryz.prog laid1 w) false (World.doorLaid Tryz.prog 400 os)
      #[.slice none 0 0, .slice none 0 0] 8 rfl (World.shaped_of_RefB (by kernel_rfl) (by kernel_rfl)) (by kernel_rfl) (by kernel_rfl) (by kernel_rfl) (door_met os _)) ?_
  intro W base args ds gs before hval0 hW _ hsz hL _
  have hW' := hW
  obtain ⟨p, q, hA, hV, _, _, _⟩ := hW
  have hval : ∀ (j : Nat) t v, Tryz.f5.params[j]? = some t → args[j]? = some v → Value.okWide Tryz.prog W .any base t v := hval0
  rw [Tryz.params5] at hA hval hsz
  obtain ⟨v0, v1, d0, d1, p0, p1, rfl, rfl, _, h0, h1⟩ := trodAll_two hA
  obtain ⟨rfl, rfl⟩ := trodVars_none hV
  obtain ⟨l0, q0, _, e0⟩ := claims_in (hval 0 22 v0 rfl rfl) h0
  obtain ⟨l1, q1, w1, e1⟩ := ints_in (hval 1 40 v1 rfl rfl) h1
  have hz : (d0.weights Tryz.prog 22).all (· ≤ reachBytes) = true ∧ (d1.weights Tryz.prog 40).all (· ≤ reachBytes) = true := by
    have := hsz
    simp only [List.cons_append, List.nil_append, List.append_nil, DataW.weightsEach, List.all_append, Bool.and_eq_true] at this
    exact ⟨this.1, this.2.1⟩
  have b1 : l1.length * 8 ≤ 140737488355328 := by
    have := w1 hz.2
    rw [bytes3] at this
    unfold reachBytes at this; omega
  refine (calls_of_from (vs := [v0, v1]) pg_ok gl_pure (3 * l1.length + 3000000) (fun n hn => conf_law l0 l1 b1 hn) (words_in hL) (.cons _ _ _ _ e0 (.cons _ _ _ _ e1 .nil))).mono fun e W' ⟨he, hb⟩ => ?_
  exact ⟨_, he, post_true (tb := 4) laidOk (by kernel_rfl) rfl hW' rfl rfl Tryz.underlying4 hb⟩

theorem spanConflict_holds : Rows.SpanConflictSaid :=
  OpenClaim.holds_of_wide 5 Tryz.f5 rfl rfl rfl rfl rfl rfl rfl ⟨rfl, rfl, rfl, rfl, rfl⟩ rfl rfl rfl rfl rfl (by kernel_rfl) Tryz.func5 (by kernel_rfl)
    (of_decide_eq_true (by kernel_rfl)) (by unfold Func.isWrapper; rw [if_neg (of_decide_eq_false (by kernel_rfl))]; exact ⟨rfl, rfl⟩)
    (fun os started H enc _ => spanConflict_lifted os started H enc)

theorem spanConflict_card : Rows.SpanConflictCardSaid :=
  Claim7.holds_tied_plain_at .later [] [.data] true Rows.spanConflictCard.stood.harness false
    spanConflict_holds (fun _ h => by cases h) (by kernel_rfl) (fun _ h => by cases h) spanConflict_row_tie rfl ⟨rfl, rfl⟩ (by kernel_rfl) rfl
    (fun f fn hf hfn => by
      obtain rfl : f = 5 := Option.some.inj ((show Tryz.prog.funcNamed "gyttja/gyttjalaw02.SpanConflict" = some 5 by kernel_rfl).symm.trans hf) |>.symm
      obtain rfl : fn = Tryz.f5 := (Option.some.inj (Tryz.func5.symm.trans hfn)).symm
      exact ⟨by kernel_rfl, fun j t ht => by
        rw [Tryz.params5] at ht
        have hm : t ∈ [22, 40] := by simpa using Array.mem_of_getElem? ht
        have hall : ([22, 40].all fun u => !Tryz.prog.wantsStandIn u) = true := by kernel_rfl
        exact (show Tryz.prog.wantsStandIn t = false by simpa using List.all_eq_true.1 hall t hm)⟩)
    (by kernel_rfl)
#print axioms spanConflict_card
end Go.Proofs.YtgbkdjlekfjkfaaGreatDoor
