/- Whatever two series and window it is called with, gyttjalaw06.YearsWindows returns true: means lie where the document says, and the peak is the first of the largest. Conditions: the arguments are together of bulk at most 1048576 (the statement's second form); the table of places of package math/bits and the range of all years of package cases hold, when the call begins, what the program text lays in them (the card ties this to the text). -/
import Derived.Test.YtngjpeoloaeneaaGreatDoorIm
import Derived.Test.YtngjpeoloaeneaaGreatDoorWn1
import Derived.Deep.DeepHandedRow
import Derived.Deep.Slices
namespace Go.Proofs.YtngjpeoloaeneaaGreatDoor
open Go Go.Em Go.RowKit Go.ChangeShapes Go.ChangeAt Go.WideShapes Go.Joins Go.Deep
set_option maxRecDepth 100000
theorem bulk_one {H : Type} (d : DataW H) : 1 ≤ Rows.uptoBulk d := by
  cases d with
  | lit l => cases l <;> simp [Rows.uptoBulk]
  | _ => simp [Rows.uptoBulk]
theorem bulk_len {H : Type} : ∀ l : List (DataW H), l.length ≤ Rows.uptoBulkAll l
  | [] => by simp [Rows.uptoBulkAll]
  | x :: r => by
    have h1 := bulk_one x
    have h2 := bulk_len r
    simp only [Rows.uptoBulkAll, List.length_cons]; omega
theorem bulkAll_mem {H : Type} {d : DataW H} : ∀ {l : List (DataW H)}, d ∈ l → Rows.uptoBulk d ≤ Rows.uptoBulkAll l
  | x :: r, h => by
    simp only [Rows.uptoBulkAll]
    rcases List.mem_cons.1 h with rfl | h
    · omega
    · have := bulkAll_mem h; omega
theorem small_le {H : Type} {l : List (DataW H)} (h : Rows.uptoSmall H l = true) : Rows.uptoBulkAll l ≤ 1048576 := of_decide_eq_true h
section
variable {H : Type} {enc : TypeId × Value → H} {W : World} {base : Nat} {r : Reach} {b0 : Nat} {spare : Nat → Bool} {held : Bool} {v : Value} {d : DataW H} {p : List MemPlace}
/-- Numbers, as many as were read. -/
theorem ints_in_le (hv : Value.okWide Tryz.prog W r b0 44 v) (h : DataW.Trod enc Tryz.prog W base spare held 44 v d p) : ∃ l : List Int, Den (ctxOf W) v (intsD l) ∧ l.length ≤ Rows.uptoBulk d := by
  obtain ⟨l, _, _, hl⟩ := ints_in hv h
  refine ⟨l, hl, ?_⟩
  obtain ⟨b, c, rfl⟩ := den_len hl
  obtain ⟨fuel, hf⟩ := h
  rw [List.length_map] at hf
  rcases open_slice Tryz.underlying44 hf with ⟨hcs, hx⟩ | ⟨a, len, cap, m, n, Dd, Pl, hcs, _, _, _, _, hx, _⟩
  · have h0 : l.length = 0 := by simpa using (Value.slice.inj (List.cons.inj hcs).1).2.1
    omega
  · obtain ⟨_, hlen, _⟩ := Value.slice.inj (List.cons.inj hcs).1
    subst hlen
    obtain ⟨rfl, _⟩ := Prod.mk.inj hx
    simp only [Rows.uptoBulk]
    have := bulk_len ((List.range l.length).map Dd)
    rw [List.length_map, List.length_range] at this
    omega
end
theorem yearsWindows_lifted (os : Os) (started : os.Started) (H : Type) (enc : TypeId × Value → H) (F : Stop.Interp) :
    ReturnsInHanded {} Tryz.checked os 7 .any ((Rows.OpenSpec.upto Rows.yearsWindowsSpec).preRow enc Tryz.prog Tryz.f7 Rows.yearsWindowsUptoRow.domain false Rows.yearsWindowsUptoRow.laid) (((Rows.OpenSpec.upto Rows.yearsWindowsSpec).at F).post enc Tryz.prog Tryz.f7 false true false false) := by
  have hok : Input.okWideB Tryz.checked.prog ((World.doorLaid Tryz.prog 400 os).forCall (fun _ _ => 0) ⟨#[], #[.slice none 0 0, .slice none 0 0, .int .i64 0], []⟩) 7 ⟨#[], #[.slice none 0 0, .slice none 0 0, .int .i64 0], []⟩ = true := by kernel_rfl
  have hc : (DataW.whole enc Tryz.prog ((World.doorLaid Tryz.prog 400 os).forCall (fun _ _ => 0) ⟨#[], #[.slice none 0 0, .slice none 0 0, .int .i64 0], []⟩).memory Tryz.f7.params.toList Rows.yearsWindowsSpec.vars false (#[.slice none 0 0, .slice none 0 0, .int .i64 0] : Array Value).toList 8).map (fun x => Rows.uptoSmall H (x.1 ++ x.2.1)) = some true := by kernel_rfl
  obtain ⟨x, hx, hsm⟩ := Option.map_eq_some_iff.1 hc
  refine returnsInHanded_of_row (C := Tryz.checked) (s := Rows.OpenSpec.upto Rows.yearsWindowsSpec) own started (by kernel_rfl) Tryz.func7
    ⟨World.doorLaid Tryz.prog 400 os, fun _ _ => 0, ⟨#[], #[.slice none 0 0, .slice none 0 0, .int .i64 0], []⟩, rfl, World.shaped_of_RefB (by kernel_rfl) (by kernel_rfl), (Input.okWide_of_okWideB (base := 0) hok).1, (Input.okWide_of_okWideB hok).2,
      OpenSpec.preRow_of_cond 8 hx rfl (fun k hk => by cases hk; exact hsm) (by kernel_rfl) (door_met os _), by simp [Assume.holds]⟩ ?_
  intro W base args ds gs before hval0 hW _ hcond _ hL _ _
  have hW' := hW
  obtain ⟨p, q, hA, hV, _, _, _⟩ := hW
  have hval : ∀ (j : Nat) t v, Tryz.f7.params[j]? = some t → args[j]? = some v → Value.okWide Tryz.prog W .any base t v := hval0
  rw [Tryz.params7] at hA hval
  obtain ⟨v0, v1, v2, d0, d1, d2, p0, p1, p2, rfl, rfl, _, h0, h1, h2⟩ := trodAll_three hA
  obtain ⟨rfl, rfl⟩ := trodVars_none hV
  obtain ⟨l0, e0, hle0⟩ := ints_in_le (hval 0 44 v0 rfl rfl) h0
  obtain ⟨l1, e1, hle1⟩ := ints_in_le (hval 1 44 v1 rfl rfl) h1
  obtain ⟨a2, rfl, _, _, _⟩ := open_int Tryz.underlying3 (hval 2 3 v2 rfl rfl) h2
  have hs := small_le (hcond _ rfl)
  have hb0 : l0.length ≤ 1048576 := by
    have h3 := bulkAll_mem (d := d0) (l := [d0, d1, d2] ++ []) (by simp)
    omega
  have hb1 : l1.length ≤ 1048576 := by
    have h3 := bulkAll_mem (d := d1) (l := [d0, d1, d2] ++ []) (by simp)
    omega
  refine (calls_of_from (vs := [v0, v1, .int .i64 a2]) pg_ok gl_pure 1000100000 (fun n hn => windows_law l0 l1 hb0 hb1 a2 hn) (words_in hL) (.cons _ _ _ _ e0 (.cons _ _ _ _ e1 (.cons _ _ _ _ (.val _ rfl) .nil)))).mono fun e W' ⟨he, hb⟩ => ?_
  exact ⟨_, he, post_true (tb := 4) laidOk (by kernel_rfl) rfl hW' rfl rfl Tryz.underlying4 hb⟩

theorem yearsWindows_holds : Rows.YearsWindowsUptoSaid :=
  OpenClaim.holds_of_cond 7 Tryz.f7 rfl rfl rfl rfl rfl rfl rfl ⟨rfl, rfl, rfl, rfl, rfl⟩ rfl rfl rfl rfl rfl (by kernel_rfl) Tryz.func7 (by kernel_rfl)
    (of_decide_eq_true (by kernel_rfl)) (by unfold Func.isWrapper; rw [if_neg (of_decide_eq_false (by kernel_rfl))]; exact ⟨rfl, rfl⟩)
    (fun os started H enc _ F => by rw [OpenClaim.pre_eq_preRow]; exact yearsWindows_lifted os started H enc F)

theorem yearsWindowsUpto_card : Rows.YearsWindowsUptoCardSaid :=
  Claim7.holds_tied_plain_at .later [] [.data, .data] true Rows.yearsWindowsUptoCard.stood.harness false
    yearsWindows_holds (fun _ h => by cases h) (by kernel_rfl) (fun _ h => by cases h) yearsWindowsUpto_row_tie rfl ⟨rfl, rfl⟩ (by kernel_rfl) rfl
    (fun f fn hf hfn => by
      obtain rfl : f = 7 := Option.some.inj ((show Tryz.prog.funcNamed "gyttja/gyttjalaw06.YearsWindows" = some 7 by kernel_rfl).symm.trans hf) |>.symm
      obtain rfl : fn = Tryz.f7 := (Option.some.inj (Tryz.func7.symm.trans hfn)).symm
      exact ⟨by kernel_rfl, fun j t ht => by
        rw [Tryz.params7] at ht
        have hm : t ∈ [44, 44, 3] := by simpa using Array.mem_of_getElem? ht
        have hall : ([44, 44, 3].all fun u => !Tryz.prog.wantsStandIn u) = true := by kernel_rfl
        exact (show Tryz.prog.wantsStandIn t = false by simpa using List.all_eq_true.1 hall t hm)⟩)
    (by kernel_rfl)
#print axioms yearsWindowsUpto_card
end Go.Proofs.YtngjpeoloaeneaaGreatDoor
