/- Arguments of the laws, as the evaluator sees them: a list of runs, two and four numbers. -/
import Derived.Test.YtlddgfkdicgbeaaGreatDoorOk
import Derived.Test.YtlddgfkdicgbeaaGreatDoorRa
import Derived.Test.YtlddgfkdicgbeaaGreatDoorCards
import Derived.SevenTiedAt
namespace Go.Proofs.YtlddgfkdicgbeaaGreatDoor
open Go Go.Em Go.RowKit Go.ChangeShapes Go.ChangeAt Go.WideShapes Go.Joins Go.Deep
set_option maxRecDepth 100000
theorem size29 : Tryz.prog.cellsOf 29 = 2 := by kernel_rfl
theorem size36 : Tryz.prog.cellsOf 36 = 4 := by kernel_rfl
theorem bulk_one {H : Type} (d : DataW H) : 1 ≤ Rows.uptoBulk d := by
  cases d with
  | lit l => cases l <;> simp [Rows.uptoBulk]
  | _ => simp [Rows.uptoBulk]
theorem bulk_len {H : Type} : ∀ l : List (DataW H), l.length ≤ Rows.uptoBulkAll l
  | [] => by simp [Rows.uptoBulkAll]
  | x :: r => by
    have h1 := bulk_one x
    have h2 := bulk_len r
    simp only [Rows.uptoBulkAll, List.length_cons]; omega
theorem bulkAll_mem {H : Type} {d : DataW H} : ∀ {l : List (DataW H)}, d ∈ l → Rows.uptoBulk d ≤ Rows.uptoBulkAll l
  | x :: r, h => by
    simp only [Rows.uptoBulkAll]
    rcases List.mem_cons.1 h with rfl | h
    · omega
    · have := bulkAll_mem h; omega
theorem small_le {H : Type} {l : List (DataW H)} (h : Rows.uptoSmall H l = true) : Rows.uptoBulkAll l ≤ 1048576 := of_decide_eq_true h
section
variable {H : Type} {enc : TypeId × Value → H} {W : World} {base : Nat} {r : Reach} {b0 : Nat} {spare : Nat → Bool} {held : Bool} {v : Value} {d : DataW H} {p : List MemPlace}
theorem agg_array {P : Program} {w : World} {t e : TypeId} {n : Nat} {v : Value} (ht : P.underlying t = some (.array n e)) (hv : Value.okWide P w r b0 t v) : ∃ cs, v = .agg cs := by
  simp only [Value.okWide, ht] at hv
  obtain ⟨cs, h, _⟩ := hv
  exact ⟨cs, h⟩
theorem arr4_read {P : Program} {w : World} {t ti : TypeId} {fuel : Nat} {cs : List Value} {x : DataW H × List MemPlace} (ht : P.underlying t = some (.array 4 ti)) (hC : P.cellsOf t = 4)
    (hi : P.underlying ti = some (.int .i64)) (c1 : P.cellsOf ti = 1) (h : DataW.trod enc P w base spare held fuel t cs = some x) : ∃ a b c d, cs = [.int .i64 a, .int .i64 b, .int .i64 c, .int .i64 d] := by
  obtain ⟨xs, n, rfl, rfl, hl, hn, hf⟩ := DataW.trod_array ht h
  have e0 := hf 0 (by omega)
  have e1 := hf 1 (by omega)
  have e2 := hf 2 (by omega)
  have e3 := hf 3 (by omega)
  rw [c1] at e0 e1 e2 e3
  rw [hC] at hl
  match cs, hl with
  | [u0, u1, u2, u3], _ =>
    match xs, hn with
    | [x0, x1, x2, x3], _ =>
      obtain ⟨a, j0, _, _⟩ := DataW.trod_int hi (show DataW.trod enc P w base spare held n ti _ = some x0 from e0)
      obtain ⟨b, j1, _, _⟩ := DataW.trod_int hi (show DataW.trod enc P w base spare held n ti _ = some x1 from e1)
      obtain ⟨c, j2, _, _⟩ := DataW.trod_int hi (show DataW.trod enc P w base spare held n ti _ = some x2 from e2)
      obtain ⟨d, j3, _, _⟩ := DataW.trod_int hi (show DataW.trod enc P w base spare held n ti _ = some x3 from e3)
      simp at j0 j1 j2 j3
      subst j0 j1 j2 j3
      exact ⟨a, b, c, d, rfl⟩
theorem arr2_read {P : Program} {w : World} {t ti : TypeId} {fuel : Nat} {cs : List Value} {x : DataW H × List MemPlace} (ht : P.underlying t = some (.array 2 ti)) (hC : P.cellsOf t = 2)
    (hi : P.underlying ti = some (.int .i64)) (c1 : P.cellsOf ti = 1) (h : DataW.trod enc P w base spare held fuel t cs = some x) : ∃ a b, cs = [.int .i64 a, .int .i64 b] := by
  obtain ⟨xs, n, rfl, rfl, hl, hn, hf⟩ := DataW.trod_array ht h
  have e0 := hf 0 (by omega)
  have e1 := hf 1 (by omega)
  rw [c1] at e0 e1
  rw [hC] at hl
  match cs, hl with
  | [u0, u1], _ =>
    match xs, hn with
    | [x0, x1], _ =>
      obtain ⟨a, j0, _, _⟩ := DataW.trod_int hi (show DataW.trod enc P w base spare held n ti _ = some x0 from e0)
      obtain ⟨b, j1, _, _⟩ := DataW.trod_int hi (show DataW.trod enc P w base spare held n ti _ = some x1 from e1)
      simp at j0 j1
      subst j0 j1
      exact ⟨a, b, rfl⟩
theorem two_in (hv : Value.okWide Tryz.prog W r b0 29 v) (h : DataW.Trod enc Tryz.prog W base spare held 29 v d p) : ∃ a b, Den (ctxOf W) v (.agg [D.int a, D.int b]) := by
  obtain ⟨cs, rfl⟩ := agg_array Tryz.underlying29 hv
  obtain ⟨fuel, hf⟩ := h
  obtain ⟨a, b, hcs⟩ := arr2_read Tryz.underlying29 size29 Tryz.underlying3 size3 hf
  obtain ⟨l⟩ := cs
  have hl : l = [.int .i64 a, .int .i64 b] := hcs
  subst hl
  exact ⟨a, b, .agg [_, _] _ (.cons _ _ _ _ (.val _ rfl) (.cons _ _ _ _ (.val _ rfl) .nil))⟩
theorem four_in (hv : Value.okWide Tryz.prog W r b0 36 v) (h : DataW.Trod enc Tryz.prog W base spare held 36 v d p) : ∃ a b c e, Den (ctxOf W) v (.agg [D.int a, D.int b, D.int c, D.int e]) := by
  obtain ⟨cs, rfl⟩ := agg_array Tryz.underlying36 hv
  obtain ⟨fuel, hf⟩ := h
  obtain ⟨a, b, c, d, hcs⟩ := arr4_read Tryz.underlying36 size36 Tryz.underlying3 size3 hf
  obtain ⟨l⟩ := cs
  have hl : l = [.int .i64 a, .int .i64 b, .int .i64 c, .int .i64 d] := hcs
  subst hl
  exact ⟨a, b, c, d, .agg [_, _, _, _] _ (.cons _ _ _ _ (.val _ rfl) (.cons _ _ _ _ (.val _ rfl) (.cons _ _ _ _ (.val _ rfl) (.cons _ _ _ _ (.val _ rfl) .nil))))⟩
theorem runs_in_le (hv : Value.okWide Tryz.prog W r b0 22 v) (h : DataW.Trod enc Tryz.prog W base spare held 22 v d p) : ∃ l : List Rn, Den (ctxOf W) v (rnsD l) ∧ l.length ≤ Rows.uptoBulk d := by
  obtain ⟨a, len, cap, rfl⟩ := okWide_slice Tryz.underlying22 hv
  obtain ⟨fuel, hf⟩ := h
  have hok : Cell.okWide Tryz.prog W r b0 22 (.slice a len cap) := by
    simpa only [Value.okWide, Tryz.underlying22] using hv
  obtain ⟨l, _, _, hl⟩ := flat_den (fun c : Rn => [.int .i64 c.1, .int .i64 c.2]) (n := 2) (fun _ => rfl) (fun _ => rfl) (0, 0) Tryz.underlying22 size40
    (fun hr => by
      obtain ⟨a, b, rfl⟩ := ints2_read Tryz.underlying40 size40 ⟨rfl, rfl⟩ ⟨rfl, rfl⟩ Tryz.underlying3 size3 hr
      exact ⟨(a, b), rfl⟩) hok hf
  refine ⟨l, hl, ?_⟩
  obtain ⟨b, c, e⟩ := den_len hl
  rw [List.length_map] at e
  rcases open_slice Tryz.underlying22 hf with ⟨hcs, hx⟩ | ⟨a', len', cap', m, n, Dd, Pl, hcs, _, h1, _, _, hx, _⟩
  · have h2 := (Value.slice.inj (List.cons.inj hcs).1).2.1
    have h3 : len = l.length := by simpa using (Value.slice.inj e).2.1
    omega
  · have h2 := (Value.slice.inj (List.cons.inj hcs).1).2.1
    have h3 : len = l.length := by simpa using (Value.slice.inj e).2.1
    obtain ⟨rfl, _⟩ := Prod.mk.inj hx
    simp only [Rows.uptoBulk]
    have := bulk_len ((List.range len').map Dd)
    rw [List.length_map, List.length_range] at this
    omega
end
end Go.Proofs.YtlddgfkdicgbeaaGreatDoor
/- A list of runs: three for each in what it weighs; and a list of runs of whatever length. -/
namespace Go.Proofs.YtlddgfkdicgbeaaGreatDoor
open Go Go.Em Go.RowKit Go.ChangeShapes Go.ChangeAt Go.WideShapes Go.Joins Go.Deep
set_option maxRecDepth 100000
theorem bulk_len3 {H : Type} : ∀ l : List (DataW H), (∀ d, d ∈ l → 3 ≤ Rows.uptoBulk d) → 3 * l.length ≤ Rows.uptoBulkAll l
  | [], _ => by simp [Rows.uptoBulkAll]
  | x :: r, h => by
    have h1 := h x List.mem_cons_self
    have h2 := bulk_len3 r fun d hd => h d (List.mem_cons_of_mem _ hd)
    simp only [Rows.uptoBulkAll, List.length_cons]; omega
section
variable {H : Type} {enc : TypeId × Value → H} {W : World} {base : Nat} {r : Reach} {b0 : Nat} {spare : Nat → Bool} {held : Bool} {v : Value} {d : DataW H} {p : List MemPlace}
theorem runs_in_le3 (hv : Value.okWide Tryz.prog W r b0 22 v) (h : DataW.Trod enc Tryz.prog W base spare held 22 v d p) : ∃ l : List Rn, Den (ctxOf W) v (rnsD l) ∧ 3 * l.length ≤ Rows.uptoBulk d := by
  obtain ⟨a, len, cap, rfl⟩ := okWide_slice Tryz.underlying22 hv
  obtain ⟨fuel, hf⟩ := h
  have hok : Cell.okWide Tryz.prog W r b0 22 (.slice a len cap) := by
    simpa only [Value.okWide, Tryz.underlying22] using hv
  obtain ⟨l, _, _, hl⟩ := flat_den (fun c : Rn => [.int .i64 c.1, .int .i64 c.2]) (n := 2) (fun _ => rfl) (fun _ => rfl) (0, 0) Tryz.underlying22 size40
    (fun hr => by
      obtain ⟨a, b, rfl⟩ := ints2_read Tryz.underlying40 size40 ⟨rfl, rfl⟩ ⟨rfl, rfl⟩ Tryz.underlying3 size3 hr
      exact ⟨(a, b), rfl⟩) hok hf
  refine ⟨l, hl, ?_⟩
  obtain ⟨b, c, e⟩ := den_len hl
  rw [List.length_map] at e
  rcases open_slice Tryz.underlying22 hf with ⟨hcs, hx⟩ | ⟨a', len', cap', m, n, Dd, Pl, hcs, _, h1, _, hm, hx, hel⟩
  · have h2 := (Value.slice.inj (List.cons.inj hcs).1).2.1
    have h3 : len = l.length := by simpa using (Value.slice.inj e).2.1
    omega
  · have h2 := (Value.slice.inj (List.cons.inj hcs).1).2.1
    have h3 : len = l.length := by simpa using (Value.slice.inj e).2.1
    obtain ⟨rfl, _⟩ := Prod.mk.inj hx
    simp only [Rows.uptoBulk]
    have hlm : len' ≤ m := by rw [hm]; split <;> omega
    have := bulk_len3 ((List.range len').map Dd) fun x hx => by
      obtain ⟨i, hi, rfl⟩ := List.mem_map.1 hx
      obtain ⟨cs', _, k2⟩ := hel i (by have := List.mem_range.1 hi; omega)
      obtain ⟨u, w, _, hD⟩ := pair_read Tryz.underlying40 size40 ⟨rfl, rfl⟩ ⟨rfl, rfl⟩ Tryz.underlying3 size3 k2
      have hD' : Dd i = .agg [.lit (.int .i64 u), .lit (.int .i64 w)] := hD
      rw [hD']
      simp [Rows.uptoBulk, Rows.uptoBulkAll]
    rw [List.length_map, List.length_range] at this
    omega
theorem runs_in (hv : Value.okWide Tryz.prog W r b0 22 v) (h : DataW.Trod enc Tryz.prog W base spare held 22 v d p) : ∃ l : List Rn, l.length ≤ 9223372036854775807 ∧ Den (ctxOf W) v (rnsD l) := by
  obtain ⟨a, len, cap, rfl⟩ := okWide_slice Tryz.underlying22 hv
  obtain ⟨fuel, hf⟩ := h
  have hok : Cell.okWide Tryz.prog W r b0 22 (.slice a len cap) := by
    simpa only [Value.okWide, Tryz.underlying22] using hv
  obtain ⟨l, h1, _, hl⟩ := flat_den (fun c : Rn => [.int .i64 c.1, .int .i64 c.2]) (n := 2) (fun _ => rfl) (fun _ => rfl) (0, 0) Tryz.underlying22 size40
    (fun hr => by
      obtain ⟨a, b, rfl⟩ := ints2_read Tryz.underlying40 size40 ⟨rfl, rfl⟩ ⟨rfl, rfl⟩ Tryz.underlying3 size3 hr
      exact ⟨(a, b), rfl⟩) hok hf
  exact ⟨l, h1, hl⟩
end
end Go.Proofs.YtlddgfkdicgbeaaGreatDoor
