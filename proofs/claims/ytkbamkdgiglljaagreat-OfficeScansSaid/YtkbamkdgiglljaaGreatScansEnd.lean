/- Whatever entries, bytes and number it is called with, gyttjalaw08.OfficeScans returns true: Sum and Scan agree with the document's own; behind frames any bytes may stand, and of a beginning of frames just those are read that are there as a whole. No conditions beside those of the statement. -/
import Derived.Test.YtkbamkdgiglljaaGreatOk
import Derived.Test.YtkbamkdgiglljaaGreatWe
namespace Go.Proofs.YtkbamkdgiglljaaGreat
open Go Go.Em Go.RowKit Go.ChangeShapes Go.ChangeAt Go.WideShapes Go.Joins
set_option maxRecDepth 100000
theorem bytes25 : Tryz.prog.bytesOf 25 = 72 := by kernel_rfl
section
variable {H : Type} {enc : TypeId × Value → H} {W : World} {base : Nat} {r : Reach} {b0 : Nat} {spare : Nat → Bool} {held : Bool} {v : Value} {d : DataW H} {p : List MemPlace}
theorem ents_in (hv : Value.okWide Tryz.prog W r b0 35 v) (h : DataW.Trod enc Tryz.prog W base spare held 35 v d p) : ∃ l : List Ent, ((d.weights Tryz.prog 35).all (· ≤ reachBytes) = true → l.length ≤ reachBytes) ∧ Den (ctxOf W) v (enD l) := by
  obtain ⟨a, len, cap, rfl⟩ := okWide_slice Tryz.underlying35 hv
  obtain ⟨l, h1, h2⟩ := (reads_aggs Tryz.underlying35 size25 (by omega) (fun _ => rfl) (fun _ => rfl) reads_entry).one rfl h
  exact ⟨l, fun hz => by have := (h2 hz).1; rw [bytes25] at this; omega, h1⟩
end
theorem officeScans_lifted (os : Os) (started : os.Started) (H : Type) (enc : TypeId × Value → H) :
    ReturnsInHanded {} Tryz.checked os 4 .any (Rows.officeScansSpec.pre6 enc Tryz.prog Tryz.f4 [] false) (Rows.officeScansSpec.post enc Tryz.prog Tryz.f4 false true false false) := by
  refine returnsInHanded_of_change_sized (C := Tryz.checked) own started (by kernel_rfl) Tryz.func4 ?_ ?_
  · obtain ⟨w, tape, i, a, b, c, d, ⟨⟨p, _⟩, q⟩, h⟩ := ChangeSpec.witness_shaped (enc := enc) (C := Tryz.checked) (os := os) (f := 4) (fn := Tryz.f4) (s := Rows.officeScansSpec) (conds := []) (apart := false) (X := fun _ _ => True) false (World.doorLaid Tryz.prog 400 os)
      #[.slice none 0 0, .slice none 0 0, .int .i64 0] 8 rfl (World.shaped_of_RefB (by kernel_rfl) (by kernel_rfl)) (by kernel_rfl) (by kernel_rfl) (by kernel_rfl) trivial
    exact ⟨w, tape, i, a, b, c, d, ⟨p, q⟩, h⟩
  intro W base args ds gs before hval0 hW _ hsz _
  have hW' := hW
  obtain ⟨p, q, hA, hV, _, _, _⟩ := hW
  have hval : ∀ (j : Nat) t v, Tryz.f4.params[j]? = some t → args[j]? = some v → Value.okWide Tryz.prog W .any base t v := hval0
  rw [Tryz.params4] at hA hval hsz
  obtain ⟨v0, v1, v2, d0, d1, d2, p0, p1, p2, rfl, rfl, _, h0, h1, h2⟩ := trodAll_three hA
  obtain ⟨rfl, rfl⟩ := trodVars_none hV
  obtain ⟨es, hes, e0⟩ := ents_in (hval 0 35 v0 rfl rfl) h0
  obtain ⟨l, hl, e1⟩ := bytes_in (hval 1 26 v1 rfl rfl) h1
  obtain ⟨c, rfl, _, _, _⟩ := open_int Tryz.underlying3 (hval 2 3 v2 rfl rfl) h2
  have hz : (d0.weights Tryz.prog 35).all (· ≤ reachBytes) = true ∧ (d1.weights Tryz.prog 26).all (· ≤ reachBytes) = true := by
    have := hsz
    simp only [List.cons_append, List.nil_append, List.append_nil, DataW.weightsEach, List.all_append, Bool.and_eq_true] at this
    exact ⟨this.1, this.2.1⟩
  refine (calls_of_from (vs := [v0, v1, .int .i64 c]) pg_ok gl_pure (20000000000000000) (fun n hn => scans_all es l c (Nat.le_trans (hes hz.1) (by decide)) (Nat.le_trans (hl hz.2) (by decide)) hn) words_in (.cons _ _ _ _ e0 (.cons _ _ _ _ e1 (.cons _ _ _ _ (.val _ rfl) .nil)))).mono fun e W' ⟨he, hb⟩ => ?_
  exact ⟨_, he, post_true (tb := 4) laidOk (by kernel_rfl) rfl hW' rfl rfl Tryz.underlying4 hb⟩

theorem officeScans_holds : Rows.OfficeScansSaid :=
  OpenClaim.holds_of_wide 4 Tryz.f4 rfl rfl rfl rfl rfl rfl rfl ⟨rfl, rfl, rfl, rfl, rfl⟩ rfl rfl rfl rfl rfl (by kernel_rfl) Tryz.func4 (by kernel_rfl)
    (of_decide_eq_true (by kernel_rfl)) (by unfold Func.isWrapper; rw [if_neg (of_decide_eq_false (by kernel_rfl))]; exact ⟨rfl, rfl⟩)
    (fun os started H enc _ => officeScans_lifted os started H enc)
#print axioms officeScans_holds
end Go.Proofs.YtkbamkdgiglljaaGreat
