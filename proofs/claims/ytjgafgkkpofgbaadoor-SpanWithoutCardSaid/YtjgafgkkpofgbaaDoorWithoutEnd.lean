/- Whatever claims and numbers it is called with, gyttjalaw02.SpanWithout returns true: the claims of other sources are those that the document's own function tells, and none of them is of one of these sources. Condition: the table of places of package math/bits holds, when the call begins, what the program's text lays in it (the card ties this to the text). -/
import Derived.Test.YtjgafgkkpofgbaaDoorIn
import Derived.Test.YtjgafgkkpofgbaaDoorWo1
namespace Go.Proofs.YtjgafgkkpofgbaaDoor
open Go Go.Em Go.RowKit Go.ChangeShapes Go.ChangeAt Go.WideShapes Go.Joins
set_option maxRecDepth 100000
theorem spanWithout_lifted (os : Os) (started : os.Started) (H : Type) (enc : TypeId × Value → H) :
    ReturnsInHanded {} Tryd.checked os 3 .any (fun w args => (Rows.spanWithoutSpec.pre enc Tryd.prog Tryd.f3 [] false w args ∧ laidMetH Tryd.prog laid1 w) ∧ sizedMet enc Tryd.prog Tryd.f3 (OpenSpec.ofChange Rows.spanWithoutSpec) false w args)
      (Rows.spanWithoutSpec.post enc Tryd.prog Tryd.f3 false true false false) := by
  refine returnsInHanded_of_change_and (C := Tryd.checked) (X := fun w _ => laidMetH Tryd.prog laid1 w) (fun _ _ _ hh h => h.of_heap hh) own started (by kernel_rfl) Tryd.func3
    (ChangeSpec.witness_shaped (enc := enc) (C := Tryd.checked) (os := os) (X := fun w _ => laidMetH Tryd.prog laid1 w) false (World.doorLaid Tryd.prog 400 os)
      #[.slice none 0 0, .slice none 0 0] 8 rfl (World.shaped_of_RefB (by kernel_rfl) (by kernel_rfl)) (by kernel_rfl) (by kernel_rfl) (by kernel_rfl) (door_met os _)) ?_
  intro W base args ds gs before hval0 hW _ hsz hL _
  have hW' := hW
  obtain ⟨p, q, hA, hV, _, _, _⟩ := hW
  have hval : ∀ (j : Nat) t v, Tryd.f3.params[j]? = some t → args[j]? = some v → Value.okWide Tryd.prog W .any base t v := hval0
  rw [Tryd.params3] at hA hval hsz
  obtain ⟨v0, v1, d0, d1, p0, p1, rfl, rfl, _, h0, h1⟩ := trodAll_two hA
  obtain ⟨rfl, rfl⟩ := trodVars_none hV
  obtain ⟨l0, q0, w0, e0⟩ := claims_in (hval 0 22 v0 rfl rfl) h0
  obtain ⟨l1, q1, w1, e1⟩ := ints_in (hval 1 23 v1 rfl rfl) h1
  have hz : (d0.weights Tryd.prog 22).all (· ≤ reachBytes) = true ∧ (d1.weights Tryd.prog 23).all (· ≤ reachBytes) = true := by
    have := hsz
    simp only [List.cons_append, List.nil_append, List.append_nil, DataW.weightsEach, List.all_append, Bool.and_eq_true] at this
    exact ⟨this.1, this.2.1⟩
  have b0 : l0.length * 40 ≤ 140737488355328 := by
    have := w0 hz.1
    rw [bytes27] at this
    unfold reachBytes at this; omega
  have b1 : l1.length ≤ 20000000000000 := by
    have := w1 hz.2
    rw [bytes3] at this
    unfold reachBytes at this; omega
  refine (calls_of_from (vs := [v0, v1]) pg_ok gl_pure (l0.length + l1.length + 300) (fun n hn => without_law l0 l1 b0 b1 hn) (words_in hL) (.cons _ _ _ _ e0 (.cons _ _ _ _ e1 .nil))).mono fun e W' ⟨he, hb⟩ => ?_
  exact ⟨_, he, post_true (tb := 4) laidOk (by kernel_rfl) rfl hW' rfl rfl Tryd.underlying4 hb⟩

theorem spanWithout_holds : Rows.SpanWithoutSaid :=
  OpenClaim.holds_of_wide 3 Tryd.f3 rfl rfl rfl rfl rfl rfl rfl ⟨rfl, rfl, rfl, rfl, rfl⟩ rfl rfl rfl rfl rfl (by kernel_rfl) Tryd.func3 (by kernel_rfl)
    (of_decide_eq_true (by kernel_rfl)) (by unfold Func.isWrapper; rw [if_neg (of_decide_eq_false (by kernel_rfl))]; exact ⟨rfl, rfl⟩)
    (fun os started H enc _ => spanWithout_lifted os started H enc)

theorem spanWithout_card : Rows.SpanWithoutCardSaid :=
  Claim7.holds_tied_plain_at .later [] [.data] true Rows.spanWithoutCard.stood.harness false
    spanWithout_holds (fun _ h => by cases h) (by kernel_rfl) (fun _ h => by cases h) spanWithout_row_tie rfl ⟨rfl, rfl⟩ (by kernel_rfl) rfl
    (fun f fn hf hfn => by
      obtain rfl : f = 3 := Option.some.inj ((show Tryd.prog.funcNamed "gyttja/gyttjalaw02.SpanWithout" = some 3 by kernel_rfl).symm.trans hf) |>.symm
      obtain rfl : fn = Tryd.f3 := (Option.some.inj (Tryd.func3.symm.trans hfn)).symm
      exact ⟨by kernel_rfl, fun j t ht => by
        rw [Tryd.params3] at ht
        have hm : t ∈ [22, 23] := by simpa using Array.mem_of_getElem? ht
        have hall : ([22, 23].all fun u => !Tryd.prog.wantsStandIn u) = true := by kernel_rfl
        exact (show Tryd.prog.wantsStandIn t = false by simpa using List.all_eq_true.1 hall t hm)⟩)
    (by kernel_rfl)
#print axioms spanWithout_card
end Go.Proofs.YtjgafgkkpofgbaaDoor
