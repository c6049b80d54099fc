/- Whatever claims and dated marks it is called with, gyttjalaw02.SpanKeeps returns true: whether the years keep the claims is what the document's own function tells. Condition: the table of places of package math/bits holds, when the call begins, what the program's text lays in it (the card ties this to the text). -/
import Derived.Test.YtjgafgkkpofgbaaDoorIn
import Derived.Test.YtjgafgkkpofgbaaDoorKp1
namespace Go.Proofs.YtjgafgkkpofgbaaDoor
open Go Go.Em Go.RowKit Go.ChangeShapes Go.ChangeAt Go.WideShapes Go.Joins Go.Deep
set_option maxRecDepth 100000
theorem size58 : Tryd.prog.cellsOf 58 = 2 := by kernel_rfl
theorem bytes60 : Tryd.prog.bytesOf 58 = 16 := by kernel_rfl
/-- A slice of dated marks, with how many there may be. -/
theorem dated_in {H : Type} {enc : TypeId × Value → H} {W : World} {base : Nat} {r : Reach} {b0 : Nat} {spare : Nat → Bool} {held : Bool} {v : Value} {d : DataW H} {p : List MemPlace} (hv : Value.okWide Tryd.prog W r b0 37 v) (h : DataW.Trod enc Tryd.prog W base spare held 37 v d p) : ∃ l : List Dt, l.length ≤ 9223372036854775807 ∧ ((d.weights Tryd.prog 37).all (· ≤ reachBytes) = true → l.length * Tryd.prog.bytesOf 58 ≤ reachBytes) ∧ Den (ctxOf W) v (dtsD l) := by
  obtain ⟨a, len, cap, rfl⟩ := okWide_slice Tryd.underlying37 hv
  obtain ⟨fuel, hf⟩ := h
  have hok : Cell.okWide Tryd.prog W r b0 37 (.slice a len cap) := by
    simpa only [Value.okWide, Tryd.underlying37] using hv
  obtain ⟨l, h1, h2, h3⟩ := flat_den (fun c : Dt => [.int .i64 c.m, .int .i64 c.y]) (n := 2) (fun _ => rfl) (fun _ => rfl) ⟨0, 0⟩ Tryd.underlying37 size58
    (fun hr => by
      obtain ⟨a, b, rfl⟩ := ints2_read Tryd.underlying58 size58 ⟨rfl, rfl⟩ ⟨rfl, rfl⟩ Tryd.underlying3 size3 hr
      exact ⟨⟨a, b⟩, rfl⟩) hok hf
  exact ⟨l, h1, h2, h3⟩
theorem spanKeeps_lifted (os : Os) (started : os.Started) (H : Type) (enc : TypeId × Value → H) :
    ReturnsInHanded {} Tryd.checked os 5 .any (fun w args => (Rows.spanKeepsSpec.pre enc Tryd.prog Tryd.f5 [] false w args ∧ laidMetH Tryd.prog laid1 w) ∧ sizedMet enc Tryd.prog Tryd.f5 (OpenSpec.ofChange Rows.spanKeepsSpec) false w args)
      (Rows.spanKeepsSpec.post enc Tryd.prog Tryd.f5 false true false false) := by
  refine returnsInHanded_of_change_and (C := Tryd.checked) (X := fun w _ => laidMetH Tryd.prog laid1 w) (fun _ _ _ hh h => h.of_heap hh) own started (by kernel_rfl) Tryd.func5
    (ChangeSpec.witness_shaped (enc := enc) (C := Tryd.checked) (os := os) (X := fun w _ => laidMetH Tryd.prog laid1 w) false (World.doorLaid Tryd.prog 400 os)
      #[.slice none 0 0, .slice none 0 0] 8 rfl (World.shaped_of_RefB (by kernel_rfl) (by kernel_rfl)) (by kernel_rfl) (by kernel_rfl) (by kernel_rfl) (door_met os _)) ?_
  intro W base args ds gs before hval0 hW _ hsz hL _
  have hW' := hW
  obtain ⟨p, q, hA, hV, _, _, _⟩ := hW
  have hval : ∀ (j : Nat) t v, Tryd.f5.params[j]? = some t → args[j]? = some v → Value.okWide Tryd.prog W .any base t v := hval0
  rw [Tryd.params5] at hA hval hsz
  obtain ⟨v0, v1, d0, d1, p0, p1, rfl, rfl, _, h0, h1⟩ := trodAll_two hA
  obtain ⟨rfl, rfl⟩ := trodVars_none hV
  obtain ⟨l0, _, _, e0⟩ := claims_in (hval 0 22 v0 rfl rfl) h0
  obtain ⟨l1, _, w1, e1⟩ := dated_in (hval 1 37 v1 rfl rfl) h1
  have hz : (d0.weights Tryd.prog 22).all (· ≤ reachBytes) = true ∧ (d1.weights Tryd.prog 37).all (· ≤ reachBytes) = true := by
    have := hsz
    simp only [List.cons_append, List.nil_append, List.append_nil, DataW.weightsEach, List.all_append, Bool.and_eq_true] at this
    exact ⟨this.1, this.2.1⟩
  have b1 : l1.length ≤ 10000000000000 := by
    have := w1 hz.2
    rw [bytes60] at this
    unfold reachBytes at this; omega
  refine (calls_of_from (vs := [v0, v1]) pg_ok gl_pure (l1.length + 6000) (fun n hn => keeps_law l0 l1 b1 hn) (words_in hL) (.cons _ _ _ _ e0 (.cons _ _ _ _ e1 .nil))).mono fun e W' ⟨he, hb⟩ => ?_
  exact ⟨_, he, post_true (tb := 4) laidOk (by kernel_rfl) rfl hW' rfl rfl Tryd.underlying4 hb⟩

theorem spanKeeps_holds : Rows.SpanKeepsSaid :=
  OpenClaim.holds_of_wide 5 Tryd.f5 rfl rfl rfl rfl rfl rfl rfl ⟨rfl, rfl, rfl, rfl, rfl⟩ rfl rfl rfl rfl rfl (by kernel_rfl) Tryd.func5 (by kernel_rfl)
    (of_decide_eq_true (by kernel_rfl)) (by unfold Func.isWrapper; rw [if_neg (of_decide_eq_false (by kernel_rfl))]; exact ⟨rfl, rfl⟩)
    (fun os started H enc _ => spanKeeps_lifted os started H enc)

theorem spanKeeps_card : Rows.SpanKeepsCardSaid :=
  Claim7.holds_tied_plain_at .later [] [.data] true Rows.spanKeepsCard.stood.harness false
    spanKeeps_holds (fun _ h => by cases h) (by kernel_rfl) (fun _ h => by cases h) spanKeeps_row_tie rfl ⟨rfl, rfl⟩ (by kernel_rfl) rfl
    (fun f fn hf hfn => by
      obtain rfl : f = 5 := Option.some.inj ((show Tryd.prog.funcNamed "gyttja/gyttjalaw02.SpanKeeps" = some 5 by kernel_rfl).symm.trans hf) |>.symm
      obtain rfl : fn = Tryd.f5 := (Option.some.inj (Tryd.func5.symm.trans hfn)).symm
      exact ⟨by kernel_rfl, fun j t ht => by
        rw [Tryd.params5] at ht
        have hm : t ∈ [22, 37] := by simpa using Array.mem_of_getElem? ht
        have hall : ([22, 37].all fun u => !Tryd.prog.wantsStandIn u) = true := by kernel_rfl
        exact (show Tryd.prog.wantsStandIn t = false by simpa using List.all_eq_true.1 hall t hm)⟩)
    (by kernel_rfl)
#print axioms spanKeeps_card
end Go.Proofs.YtjgafgkkpofgbaaDoor
