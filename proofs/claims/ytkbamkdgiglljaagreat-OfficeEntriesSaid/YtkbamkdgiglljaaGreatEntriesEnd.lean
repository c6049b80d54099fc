/- Whatever entry and bytes it is called with, gyttjalaw08.OfficeEntries returns true: CheckEntry, Encode, Frame and Decode agree with the document's own. No conditions beside those of the statement. -/
import Derived.Test.YtkbamkdgiglljaaGreatOk
import Derived.Test.YtkbamkdgiglljaaGreatLaw
namespace Go.Proofs.YtkbamkdgiglljaaGreat
open Go Go.Em Go.RowKit Go.ChangeShapes Go.ChangeAt Go.WideShapes Go.Joins
set_option maxRecDepth 100000
theorem officeEntries_lifted (os : Os) (started : os.Started) (H : Type) (enc : TypeId × Value → H) :
    ReturnsInHanded {} Tryz.checked os 3 .any (Rows.officeEntriesSpec.pre6 enc Tryz.prog Tryz.f3 [] false) (Rows.officeEntriesSpec.post enc Tryz.prog Tryz.f3 false true false false) := by
  refine returnsInHanded_of_change_sized (C := Tryz.checked) own started (by kernel_rfl) Tryz.func3 ?_ ?_
  · obtain ⟨w, tape, i, a, b, c, d, ⟨⟨p, _⟩, q⟩, h⟩ := ChangeSpec.witness_shaped (enc := enc) (C := Tryz.checked) (os := os) (f := 3) (fn := Tryz.f3) (s := Rows.officeEntriesSpec) (conds := []) (apart := false) (X := fun _ _ => True) false (World.doorLaid Tryz.prog 400 os)
      #[.agg #[.int .i64 0, .int .i64 0, .int .i64 0, .int .i64 0, .int .i64 0, .int .i64 0, .int .i64 0, .string ⟨#[]⟩], .slice none 0 0] 8 rfl (World.shaped_of_RefB (by kernel_rfl) (by kernel_rfl)) (by kernel_rfl) (by kernel_rfl) (by kernel_rfl) trivial
    exact ⟨w, tape, i, a, b, c, d, ⟨p, q⟩, h⟩
  intro W base args ds gs before hval0 hW _ hsz _
  have hW' := hW
  obtain ⟨p, q, hA, hV, _, _, _⟩ := hW
  have hval : ∀ (j : Nat) t v, Tryz.f3.params[j]? = some t → args[j]? = some v → Value.okWide Tryz.prog W .any base t v := hval0
  rw [Tryz.params3] at hA hval hsz
  obtain ⟨v0, v1, d0, d1, p0, p1, rfl, rfl, _, h0, h1⟩ := trodAll_two hA
  obtain ⟨rfl, rfl⟩ := trodVars_none hV
  obtain ⟨x, e0⟩ := entry_in (hval 0 25 v0 rfl rfl) h0
  obtain ⟨l, hl, e1⟩ := bytes_in (hval 1 26 v1 rfl rfl) h1
  have hz : (d1.weights Tryz.prog 26).all (· ≤ reachBytes) = true := by
    have := hsz
    simp only [List.cons_append, List.nil_append, List.append_nil, DataW.weightsEach, List.all_append, Bool.and_eq_true] at this
    exact this.2.1
  refine (calls_of_from (vs := [v0, v1]) pg_ok gl_pure (100000) (fun n hn => entries_all x l (Nat.le_trans (hl hz) (by decide)) (by omega)) words_in (.cons _ _ _ _ e0 (.cons _ _ _ _ e1 .nil))).mono fun e W' ⟨he, hb⟩ => ?_
  exact ⟨_, he, post_true (tb := 4) laidOk (by kernel_rfl) rfl hW' rfl rfl Tryz.underlying4 hb⟩

theorem officeEntries_holds : Rows.OfficeEntriesSaid :=
  OpenClaim.holds_of_wide 3 Tryz.f3 rfl rfl rfl rfl rfl rfl rfl ⟨rfl, rfl, rfl, rfl, rfl⟩ rfl rfl rfl rfl rfl (by kernel_rfl) Tryz.func3 (by kernel_rfl)
    (of_decide_eq_true (by kernel_rfl)) (by unfold Func.isWrapper; rw [if_neg (of_decide_eq_false (by kernel_rfl))]; exact ⟨rfl, rfl⟩)
    (fun os started H enc _ => officeEntries_lifted os started H enc)
#print axioms officeEntries_holds
end Go.Proofs.YtkbamkdgiglljaaGreat
