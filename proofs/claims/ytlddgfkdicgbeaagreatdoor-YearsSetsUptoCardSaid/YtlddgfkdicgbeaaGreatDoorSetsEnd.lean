/- Whatever two lists of runs it is called with, gyttjalaw06.YearsSets returns true: whether a list is a normal form, and the normal forms, unions, common parts and differences, are as the document says. Conditions: the arguments are together of bulk at most 1048576 (the second form of the statement); the table of places of package math/bits and the range of all years of package cases hold, when the call begins, what the program text lays in them (the card ties this to the text). -/
import Derived.Test.YtlddgfkdicgbeaaGreatDoorIn
import Derived.Test.YtlddgfkdicgbeaaGreatDoorRm
import Derived.Deep.DeepHandedRow
import Derived.Deep.Slices
namespace Go.Proofs.YtlddgfkdicgbeaaGreatDoor
open Go Go.Em Go.RowKit Go.ChangeShapes Go.ChangeAt Go.WideShapes Go.Joins Go.Deep
set_option maxRecDepth 100000
theorem yearsSets_lifted (os : Os) (started : os.Started) (H : Type) (enc : TypeId × Value → H) (F : Stop.Interp) :
    ReturnsInHanded {} Tryz.checked os 3 .any ((Rows.OpenSpec.upto Rows.yearsSetsSpec).preRow enc Tryz.prog Tryz.f3 Rows.yearsSetsUptoRow.domain false Rows.yearsSetsUptoRow.laid) (((Rows.OpenSpec.upto Rows.yearsSetsSpec).at F).post enc Tryz.prog Tryz.f3 false true false false) := by
  have hok : Input.okWideB Tryz.checked.prog ((World.doorLaid Tryz.prog 400 os).forCall (fun _ _ => 0) ⟨#[], #[.slice none 0 0, .slice none 0 0], []⟩) 3 ⟨#[], #[.slice none 0 0, .slice none 0 0], []⟩ = true := by kernel_rfl
  have hc : (DataW.whole enc Tryz.prog ((World.doorLaid Tryz.prog 400 os).forCall (fun _ _ => 0) ⟨#[], #[.slice none 0 0, .slice none 0 0], []⟩).memory Tryz.f3.params.toList Rows.yearsSetsSpec.vars false (#[.slice none 0 0, .slice none 0 0] : Array Value).toList 8).map (fun x => Rows.uptoSmall H (x.1 ++ x.2.1)) = some true := by kernel_rfl
  obtain ⟨x, hx, hsm⟩ := Option.map_eq_some_iff.1 hc
  refine returnsInHanded_of_row (C := Tryz.checked) (s := Rows.OpenSpec.upto Rows.yearsSetsSpec) own started (by kernel_rfl) Tryz.func3
    ⟨World.doorLaid Tryz.prog 400 os, fun _ _ => 0, ⟨#[], #[.slice none 0 0, .slice none 0 0], []⟩, rfl, World.shaped_of_RefB (by kernel_rfl) (by kernel_rfl), (Input.okWide_of_okWideB (base := 0) hok).1, (Input.okWide_of_okWideB hok).2,
      OpenSpec.preRow_of_cond 8 hx rfl (fun k hk => by cases hk; exact hsm) (by kernel_rfl) (door_met os _), by simp [Assume.holds]⟩ ?_
  intro W base args ds gs before hval0 hW _ hcond _ hL _ _
  have hW' := hW
  obtain ⟨p, q, hA, hV, _, _, _⟩ := hW
  have hval : ∀ (j : Nat) t v, Tryz.f3.params[j]? = some t → args[j]? = some v → Value.okWide Tryz.prog W .any base t v := hval0
  rw [Tryz.params3] at hA hval
  obtain ⟨v0, v1, d0, d1, p0, p1, rfl, rfl, _, h0, h1⟩ := trodAll_two hA
  obtain ⟨rfl, rfl⟩ := trodVars_none hV
  obtain ⟨l0, e0, hle0⟩ := runs_in_le (hval 0 22 v0 rfl rfl) h0
  obtain ⟨l1, e1, hle1⟩ := runs_in_le (hval 1 22 v1 rfl rfl) h1
  have hs := small_le (hcond _ rfl)
  have hb0 : l0.length ≤ 1048576 := by
    have h3 := bulkAll_mem (d := d0) (l := [d0, d1] ++ []) (by simp)
    omega
  have hb1 : l1.length ≤ 1048576 := by
    have h3 := bulkAll_mem (d := d1) (l := [d0, d1] ++ []) (by simp)
    omega
  refine (calls_of_from (vs := [v0, v1]) pg_ok gl_pure (bigN + 2020002000) (fun n hn => sets_law l0 l1 (by omega) (by omega) (Nat.le_trans (Nat.add_le_add_left (by decide) _) hn) (Nat.le_trans (Nat.le_add_left _ _) (Nat.le_trans (Nat.add_le_add_left (by decide : 2020001000 ≤ 2020002000) bigN) hn))) (words_in hL) (.cons _ _ _ _ e0 (.cons _ _ _ _ e1 .nil))).mono fun e W' ⟨he, hb⟩ => ?_
  exact ⟨_, he, post_true (tb := 4) laidOk (by kernel_rfl) rfl hW' rfl rfl Tryz.underlying4 hb⟩

theorem yearsSets_holds : Rows.YearsSetsUptoSaid :=
  OpenClaim.holds_of_cond 3 Tryz.f3 rfl rfl rfl rfl rfl rfl rfl ⟨rfl, rfl, rfl, rfl, rfl⟩ rfl rfl rfl rfl rfl (by kernel_rfl) Tryz.func3 (by kernel_rfl)
    (of_decide_eq_true (by kernel_rfl)) (by unfold Func.isWrapper; rw [if_neg (of_decide_eq_false (by kernel_rfl))]; exact ⟨rfl, rfl⟩)
    (fun os started H enc _ F => by rw [OpenClaim.pre_eq_preRow]; exact yearsSets_lifted os started H enc F)

theorem yearsSetsUpto_card : Rows.YearsSetsUptoCardSaid :=
  Claim7.holds_tied_plain_at .later [] [.data, .data] true Rows.yearsSetsUptoCard.stood.harness false
    yearsSets_holds (fun _ h => by cases h) (by kernel_rfl) (fun _ h => by cases h) yearsSetsUpto_row_tie rfl ⟨rfl, rfl⟩ (by kernel_rfl) rfl
    (fun f fn hf hfn => by
      obtain rfl : f = 3 := Option.some.inj ((show Tryz.prog.funcNamed "gyttja/gyttjalaw06.YearsSets" = some 3 by kernel_rfl).symm.trans hf) |>.symm
      obtain rfl : fn = Tryz.f3 := (Option.some.inj (Tryz.func3.symm.trans hfn)).symm
      exact ⟨by kernel_rfl, fun j t ht => by
        rw [Tryz.params3] at ht
        have hm : t ∈ [22, 22] := by simpa using Array.mem_of_getElem? ht
        have hall : ([22, 22].all fun u => !Tryz.prog.wantsStandIn u) = true := by kernel_rfl
        exact (show Tryz.prog.wantsStandIn t = false by simpa using List.all_eq_true.1 hall t hm)⟩)
    (by kernel_rfl)
#print axioms yearsSetsUpto_card
end Go.Proofs.YtlddgfkdicgbeaaGreatDoor
