/- Whatever two lists of runs and year it is called with, gyttjalaw06.YearsAlgebra returns true: unions, common parts and differences have exactly the years that they must have, a normal form is its own, and sizes add up. Conditions: the arguments are together of bulk at most 1048576 (the second form of the statement); the table of places of package math/bits and the range of all years of package cases hold, when the call begins, what the program text lays in them (the card ties this to the text). -/
import Derived.Test.YtlddgfkdicgbeaaGreatDoorIn
import Derived.Test.YtlddgfkdicgbeaaGreatDoorRt
import Derived.Deep.DeepHandedRow
import Derived.Deep.Slices
namespace Go.Proofs.YtlddgfkdicgbeaaGreatDoor
open Go Go.Em Go.RowKit Go.ChangeShapes Go.ChangeAt Go.WideShapes Go.Joins Go.Deep
set_option maxRecDepth 100000
theorem yearsAlgebra_lifted (os : Os) (started : os.Started) (H : Type) (enc : TypeId × Value → H) (F : Stop.Interp) :
    ReturnsInHanded {} Tryz.checked os 5 .any ((Rows.OpenSpec.upto Rows.yearsAlgebraSpec).preRow enc Tryz.prog Tryz.f5 Rows.yearsAlgebraUptoRow.domain false Rows.yearsAlgebraUptoRow.laid) (((Rows.OpenSpec.upto Rows.yearsAlgebraSpec).at F).post enc Tryz.prog Tryz.f5 false true false false) := by
  have hok : Input.okWideB Tryz.checked.prog ((World.doorLaid Tryz.prog 400 os).forCall (fun _ _ => 0) ⟨#[], #[.slice none 0 0, .slice none 0 0, .int .i64 0], []⟩) 5 ⟨#[], #[.slice none 0 0, .slice none 0 0, .int .i64 0], []⟩ = true := by kernel_rfl
  have hc : (DataW.whole enc Tryz.prog ((World.doorLaid Tryz.prog 400 os).forCall (fun _ _ => 0) ⟨#[], #[.slice none 0 0, .slice none 0 0, .int .i64 0], []⟩).memory Tryz.f5.params.toList Rows.yearsAlgebraSpec.vars false (#[.slice none 0 0, .slice none 0 0, .int .i64 0] : Array Value).toList 8).map (fun x => Rows.uptoSmall H (x.1 ++ x.2.1)) = some true := by kernel_rfl
  obtain ⟨x, hx, hsm⟩ := Option.map_eq_some_iff.1 hc
  refine returnsInHanded_of_row (C := Tryz.checked) (s := Rows.OpenSpec.upto Rows.yearsAlgebraSpec) own started (by kernel_rfl) Tryz.func5
    ⟨World.doorLaid Tryz.prog 400 os, fun _ _ => 0, ⟨#[], #[.slice none 0 0, .slice none 0 0, .int .i64 0], []⟩, rfl, World.shaped_of_RefB (by kernel_rfl) (by kernel_rfl), (Input.okWide_of_okWideB (base := 0) hok).1, (Input.okWide_of_okWideB hok).2,
      OpenSpec.preRow_of_cond 8 hx rfl (fun k hk => by cases hk; exact hsm) (by kernel_rfl) (door_met os _), by simp [Assume.holds]⟩ ?_
  intro W base args ds gs before hval0 hW _ hcond _ hL _ _
  have hW' := hW
  obtain ⟨p, q, hA, hV, _, _, _⟩ := hW
  have hval : ∀ (j : Nat) t v, Tryz.f5.params[j]? = some t → args[j]? = some v → Value.okWide Tryz.prog W .any base t v := hval0
  rw [Tryz.params5] at hA hval
  obtain ⟨v0, v1, v2, d0, d1, d2, p0, p1, p2, rfl, rfl, _, h0, h1, h2⟩ := trodAll_three hA
  obtain ⟨rfl, rfl⟩ := trodVars_none hV
  obtain ⟨l0, e0, hle0⟩ := runs_in_le3 (hval 0 22 v0 rfl rfl) h0
  obtain ⟨l1, e1, hle1⟩ := runs_in_le3 (hval 1 22 v1 rfl rfl) h1
  obtain ⟨a2, rfl, _, _, _⟩ := open_int Tryz.underlying3 (hval 2 3 v2 rfl rfl) h2
  have hs := small_le (hcond _ rfl)
  have hb : l0.length + l1.length ≤ 400000 := by
    simp [Rows.uptoBulkAll] at hs
    omega
  refine (calls_of_from (vs := [v0, v1, .int .i64 a2]) pg_ok gl_pure (bigN + 2020002000) (fun n hn => algebra_law l0 l1 hb a2 (Nat.le_trans (Nat.add_le_add_left (by decide) _) hn) (Nat.le_trans (Nat.le_add_left _ _) (Nat.le_trans (Nat.add_le_add_left (by decide : 2020001000 ≤ 2020002000) bigN) hn))) (words_in hL) (.cons _ _ _ _ e0 (.cons _ _ _ _ e1 (.cons _ _ _ _ (.val _ rfl) .nil)))).mono fun e W' ⟨he, hb⟩ => ?_
  exact ⟨_, he, post_true (tb := 4) laidOk (by kernel_rfl) rfl hW' rfl rfl Tryz.underlying4 hb⟩

theorem yearsAlgebra_holds : Rows.YearsAlgebraUptoSaid :=
  OpenClaim.holds_of_cond 5 Tryz.f5 rfl rfl rfl rfl rfl rfl rfl ⟨rfl, rfl, rfl, rfl, rfl⟩ rfl rfl rfl rfl rfl (by kernel_rfl) Tryz.func5 (by kernel_rfl)
    (of_decide_eq_true (by kernel_rfl)) (by unfold Func.isWrapper; rw [if_neg (of_decide_eq_false (by kernel_rfl))]; exact ⟨rfl, rfl⟩)
    (fun os started H enc _ F => by rw [OpenClaim.pre_eq_preRow]; exact yearsAlgebra_lifted os started H enc F)

theorem yearsAlgebraUpto_card : Rows.YearsAlgebraUptoCardSaid :=
  Claim7.holds_tied_plain_at .later [] [.data, .data] true Rows.yearsAlgebraUptoCard.stood.harness false
    yearsAlgebra_holds (fun _ h => by cases h) (by kernel_rfl) (fun _ h => by cases h) yearsAlgebraUpto_row_tie rfl ⟨rfl, rfl⟩ (by kernel_rfl) rfl
    (fun f fn hf hfn => by
      obtain rfl : f = 5 := Option.some.inj ((show Tryz.prog.funcNamed "gyttja/gyttjalaw06.YearsAlgebra" = some 5 by kernel_rfl).symm.trans hf) |>.symm
      obtain rfl : fn = Tryz.f5 := (Option.some.inj (Tryz.func5.symm.trans hfn)).symm
      exact ⟨by kernel_rfl, fun j t ht => by
        rw [Tryz.params5] at ht
        have hm : t ∈ [22, 22, 3] := by simpa using Array.mem_of_getElem? ht
        have hall : ([22, 22, 3].all fun u => !Tryz.prog.wantsStandIn u) = true := by kernel_rfl
        exact (show Tryz.prog.wantsStandIn t = false by simpa using List.all_eq_true.1 hall t hm)⟩)
    (by kernel_rfl)
#print axioms yearsAlgebraUpto_card
end Go.Proofs.YtlddgfkdicgbeaaGreatDoor
