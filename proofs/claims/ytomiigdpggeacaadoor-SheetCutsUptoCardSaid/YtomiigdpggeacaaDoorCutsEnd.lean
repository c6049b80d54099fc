/- Whatever sheet, two numbers and rows it is called with, gyttjalaw01.SheetCuts returns true: rows between marks, and sheets in which they are replaced, or of which a part is cut, are those that the document's own functions tell. Conditions: the arguments are together of bulk at most 1048576 (the statement's second form); the table of words of package sheet holds, when the call begins, what the program text lays in it (the card ties this to the text). -/
import Derived.Test.YtomiigdpggeacaaDoorIn
import Derived.Test.YtomiigdpggeacaaDoorCuts
import Derived.Deep.DeepHandedRow
import Derived.Deep.Slices
namespace Go.Proofs.YtomiigdpggeacaaDoor
open Go Go.Em Go.RowKit Go.ChangeShapes Go.ChangeAt Go.WideShapes Go.Joins Go.Deep
set_option maxRecDepth 100000
theorem bulk_one {H : Type} (d : DataW H) : 1 ≤ Rows.uptoBulk d := by
  cases d with
  | lit l => cases l <;> simp [Rows.uptoBulk]
  | _ => simp [Rows.uptoBulk]
theorem bulk_len {H : Type} : ∀ l : List (DataW H), l.length ≤ Rows.uptoBulkAll l
  | [] => by simp [Rows.uptoBulkAll]
  | x :: r => by
    have h1 := bulk_one x
    have h2 := bulk_len r
    simp only [Rows.uptoBulkAll, List.length_cons]; omega
theorem bulkAll_mem {H : Type} {d : DataW H} : ∀ {l : List (DataW H)}, d ∈ l → Rows.uptoBulk d ≤ Rows.uptoBulkAll l
  | x :: r, h => by
    simp only [Rows.uptoBulkAll]
    rcases List.mem_cons.1 h with rfl | h
    · omega
    · have := bulkAll_mem h; omega
theorem small_le {H : Type} {l : List (DataW H)} (h : Rows.uptoSmall H l = true) : Rows.uptoBulkAll l ≤ 1048576 := of_decide_eq_true h
section
variable {H : Type} {enc : TypeId × Value → H} {W : World} {base : Nat} {r : Reach} {b0 : Nat} {spare : Nat → Bool} {held : Bool} {v : Value} {d : DataW H} {p : List MemPlace}
/-- Rows, as many as were read. -/
theorem rows_in_le (hv : Value.okWide Tryd.prog W r b0 23 v) (h : DataW.Trod enc Tryd.prog W base spare held 23 v d p) : ∃ l, Den (ctxOf W) v (rowsD l) ∧ l.length ≤ Rows.uptoBulk d := by
  obtain ⟨l, hl⟩ := rows_in hv h
  refine ⟨l, hl, ?_⟩
  obtain ⟨b, c, rfl⟩ := den_len hl
  obtain ⟨fuel, hf⟩ := h
  rw [List.length_map] at hf
  rcases open_slice Tryd.underlying23 hf with ⟨hcs, hx⟩ | ⟨a, len, cap, m, n, Dd, Pl, hcs, _, _, _, _, hx, _⟩
  · have h0 : l.length = 0 := by simpa using (Value.slice.inj (List.cons.inj hcs).1).2.1
    omega
  · obtain ⟨_, hlen, _⟩ := Value.slice.inj (List.cons.inj hcs).1
    subst hlen
    obtain ⟨rfl, _⟩ := Prod.mk.inj hx
    simp only [Rows.uptoBulk]
    have := bulk_len ((List.range l.length).map Dd)
    rw [List.length_map, List.length_range] at this
    omega
end
theorem sheetCuts_lifted (os : Os) (started : os.Started) (H : Type) (enc : TypeId × Value → H) (F : Stop.Interp) :
    ReturnsInHanded {} Tryd.checked os 6 .any ((Rows.OpenSpec.upto Rows.sheetCutsSpec).preRow enc Tryd.prog Tryd.f6 Rows.sheetCutsUptoRow.domain false Rows.sheetCutsUptoRow.laid) (((Rows.OpenSpec.upto Rows.sheetCutsSpec).at F).post enc Tryd.prog Tryd.f6 false true false false) := by
  have hok : Input.okWideB Tryd.checked.prog ((World.doorLaid Tryd.prog 400 os).forCall (fun _ _ => 0) ⟨#[], #[.agg #[.int .i64 0, .int .i64 0, .int .i64 0, .slice none 0 0], .agg #[.int .i64 0, .int .i64 0], .slice none 0 0], []⟩) 6 ⟨#[], #[.agg #[.int .i64 0, .int .i64 0, .int .i64 0, .slice none 0 0], .agg #[.int .i64 0, .int .i64 0], .slice none 0 0], []⟩ = true := by kernel_rfl
  have hc : (DataW.whole enc Tryd.prog ((World.doorLaid Tryd.prog 400 os).forCall (fun _ _ => 0) ⟨#[], #[.agg #[.int .i64 0, .int .i64 0, .int .i64 0, .slice none 0 0], .agg #[.int .i64 0, .int .i64 0], .slice none 0 0], []⟩).memory Tryd.f6.params.toList Rows.sheetCutsSpec.vars false (#[.agg #[.int .i64 0, .int .i64 0, .int .i64 0, .slice none 0 0], .agg #[.int .i64 0, .int .i64 0], .slice none 0 0] : Array Value).toList 8).map (fun x => Rows.uptoSmall H (x.1 ++ x.2.1)) = some true := by kernel_rfl
  obtain ⟨x, hx, hsm⟩ := Option.map_eq_some_iff.1 hc
  refine returnsInHanded_of_row (C := Tryd.checked) (s := Rows.OpenSpec.upto Rows.sheetCutsSpec) own started (by kernel_rfl) Tryd.func6
    ⟨World.doorLaid Tryd.prog 400 os, fun _ _ => 0, ⟨#[], #[.agg #[.int .i64 0, .int .i64 0, .int .i64 0, .slice none 0 0], .agg #[.int .i64 0, .int .i64 0], .slice none 0 0], []⟩, rfl, World.shaped_of_RefB (by kernel_rfl) (by kernel_rfl), (Input.okWide_of_okWideB (base := 0) hok).1, (Input.okWide_of_okWideB hok).2,
      OpenSpec.preRow_of_cond 8 hx rfl (fun k hk => by cases hk; exact hsm) (by kernel_rfl) (door_met os _), by simp [Assume.holds]⟩ ?_
  intro W base args ds gs before hval0 hW _ hcond _ hL _ _
  have hW' := hW
  obtain ⟨p, q, hA, hV, _, _, _⟩ := hW
  have hval : ∀ (j : Nat) t v, Tryd.f6.params[j]? = some t → args[j]? = some v → Value.okWide Tryd.prog W .any base t v := hval0
  rw [Tryd.params6] at hA hval
  obtain ⟨v0, v1, v2, d0, d1, d2, p0, p1, p2, rfl, rfl, _, h0, h1, h2⟩ := trodAll_three hA
  obtain ⟨rfl, rfl⟩ := trodVars_none hV
  obtain ⟨i0, r0, c0, l0, e0⟩ := sheet_in (hval 0 25 v0 rfl rfl) h0
  obtain ⟨a1, b1, e1⟩ := two_in (hval 1 34 v1 rfl rfl) h1
  obtain ⟨l2, e2, hle2⟩ := rows_in_le (hval 2 23 v2 rfl rfl) h2
  have hb2 : l2.length ≤ 1500000 := by
    have hs := hcond _ rfl
    have := small_le hs
    have h3 := bulkAll_mem (d := d2) (l := [d0, d1, d2] ++ []) (by simp)
    omega
  refine (calls_of_from (vs := [v0, v1, v2]) pg_ok gl_pure (l0.length + l2.length + 6000) (fun n hn => cuts_law i0 r0 c0 l0 a1 b1 l2 hb2 hn) (words_in hL) (.cons _ _ _ _ e0 (.cons _ _ _ _ e1 (.cons _ _ _ _ e2 .nil)))).mono fun e W' ⟨he, hb⟩ => ?_
  exact ⟨_, he, post_true (tb := 4) laidOk (by kernel_rfl) rfl hW' rfl rfl Tryd.underlying4 hb⟩

theorem sheetCuts_holds : Rows.SheetCutsUptoSaid :=
  OpenClaim.holds_of_cond 6 Tryd.f6 rfl rfl rfl rfl rfl rfl rfl ⟨rfl, rfl, rfl, rfl, rfl⟩ rfl rfl rfl rfl rfl (by kernel_rfl) Tryd.func6 (by kernel_rfl)
    (of_decide_eq_true (by kernel_rfl)) (by unfold Func.isWrapper; rw [if_neg (of_decide_eq_false (by kernel_rfl))]; exact ⟨rfl, rfl⟩)
    (fun os started H enc _ F => by rw [OpenClaim.pre_eq_preRow]; exact sheetCuts_lifted os started H enc F)

theorem sheetCuts_card : Rows.SheetCutsUptoCardSaid :=
  Claim7.holds_tied_plain_at .later [] [.data] true Rows.sheetCutsUptoCard.stood.harness true
    sheetCuts_holds (fun _ h => by cases h) (by kernel_rfl) (fun _ h => by cases h) sheetCutsUpto_row_tie rfl ⟨rfl, rfl⟩ (by kernel_rfl) rfl
    (fun f fn hf hfn => by
      obtain rfl : f = 6 := Option.some.inj ((show Tryd.prog.funcNamed "gyttja/gyttjalaw01.SheetCuts" = some 6 by kernel_rfl).symm.trans hf) |>.symm
      obtain rfl : fn = Tryd.f6 := (Option.some.inj (Tryd.func6.symm.trans hfn)).symm
      exact ⟨by kernel_rfl, fun j t ht => by
        rw [Tryd.params6] at ht
        have hm : t ∈ [25, 34, 23] := by simpa using Array.mem_of_getElem? ht
        have hall : ([25, 34, 23].all fun u => !Tryd.prog.wantsStandIn u) = true := by kernel_rfl
        exact (show Tryd.prog.wantsStandIn t = false by simpa using List.all_eq_true.1 hall t hm)⟩)
    (by kernel_rfl)
#print axioms sheetCuts_card
end Go.Proofs.YtomiigdpggeacaaDoor
