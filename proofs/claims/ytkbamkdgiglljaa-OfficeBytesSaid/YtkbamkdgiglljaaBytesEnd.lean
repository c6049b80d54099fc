/- Whatever entry and bytes it is called with, gyttjalaw08.OfficeBytes returns true: Decode of Encode is the entry, and Encode of what Decode returns is the bytes. No conditions beside those of the statement. -/
import Derived.Test.YtkbamkdgiglljaaOk
import Derived.Test.YtkbamkdgiglljaaLaw
namespace Go.Proofs.Ytkbamkdgiglljaa
open Go Go.Em Go.RowKit Go.ChangeShapes Go.ChangeAt Go.WideShapes Go.Joins
set_option maxRecDepth 100000
theorem officeBytes_lifted (os : Os) (started : os.Started) (H : Type) (enc : TypeId × Value → H) :
    ReturnsInHanded {} Try.checked os 3 .any (Rows.officeBytesSpec.pre6 enc Try.prog Try.f3 [] false) (Rows.officeBytesSpec.post enc Try.prog Try.f3 false true false false) := by
  refine returnsInHanded_of_change_sized (C := Try.checked) own started (by kernel_rfl) Try.func3 ?_ ?_
  · obtain ⟨w, tape, i, a, b, c, d, ⟨⟨p, _⟩, q⟩, h⟩ := ChangeSpec.witness_shaped (enc := enc) (C := Try.checked) (os := os) (f := 3) (fn := Try.f3) (s := Rows.officeBytesSpec) (conds := []) (apart := false) (X := fun _ _ => True) false (World.doorLaid Try.prog 400 os)
      #[.agg #[.int .i64 0, .int .i64 0, .int .i64 0, .int .i64 0, .int .i64 0, .int .i64 0, .int .i64 0, .string ⟨#[]⟩], .slice none 0 0] 8 rfl (World.shaped_of_RefB (by kernel_rfl) (by kernel_rfl)) (by kernel_rfl) (by kernel_rfl) (by kernel_rfl) trivial
    exact ⟨w, tape, i, a, b, c, d, ⟨p, q⟩, h⟩
  intro W base args ds gs before hval0 hW _ hsz _
  have hW' := hW
  obtain ⟨p, q, hA, hV, _, _, _⟩ := hW
  have hval : ∀ (j : Nat) t v, Try.f3.params[j]? = some t → args[j]? = some v → Value.okWide Try.prog W .any base t v := hval0
  rw [Try.params3] at hA hval hsz
  obtain ⟨v0, v1, d0, d1, p0, p1, rfl, rfl, _, h0, h1⟩ := trodAll_two hA
  obtain ⟨rfl, rfl⟩ := trodVars_none hV
  obtain ⟨x, e0⟩ := entry_in (hval 0 25 v0 rfl rfl) h0
  obtain ⟨l, hl, e1⟩ := bytes_in (hval 1 26 v1 rfl rfl) h1
  refine (calls_of_from (vs := [v0, v1]) pg_ok gl_pure (100000) (fun n hn => bytes_all x l (by omega)) words_in (.cons _ _ _ _ e0 (.cons _ _ _ _ e1 .nil))).mono fun e W' ⟨he, hb⟩ => ?_
  exact ⟨_, he, post_true (tb := 4) laidOk (by kernel_rfl) rfl hW' rfl rfl Try.underlying4 hb⟩

theorem officeBytes_holds : Rows.OfficeBytesSaid :=
  OpenClaim.holds_of_wide 3 Try.f3 rfl rfl rfl rfl rfl rfl rfl ⟨rfl, rfl, rfl, rfl, rfl⟩ rfl rfl rfl rfl rfl (by kernel_rfl) Try.func3 (by kernel_rfl)
    (of_decide_eq_true (by kernel_rfl)) (by unfold Func.isWrapper; rw [if_neg (of_decide_eq_false (by kernel_rfl))]; exact ⟨rfl, rfl⟩)
    (fun os started H enc _ => officeBytes_lifted os started H enc)
#print axioms officeBytes_holds
end Go.Proofs.Ytkbamkdgiglljaa
