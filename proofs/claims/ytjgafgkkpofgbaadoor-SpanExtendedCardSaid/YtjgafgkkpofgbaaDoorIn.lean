/- Arguments of the laws, as the evaluator sees them. -/
import Derived.Test.YtjgafgkkpofgbaaDoorOk
import Derived.Test.YtjgafgkkpofgbaaDoorTz
import Derived.Test.YtjgafgkkpofgbaaDoorEmFlat
import Derived.Test.YtjgafgkkpofgbaaDoorCards
import Derived.SevenTiedAt
namespace Go.Proofs.YtjgafgkkpofgbaaDoor
open Go Go.Em Go.RowKit Go.ChangeShapes Go.ChangeAt Go.WideShapes Go.Joins Go.Deep
set_option maxRecDepth 100000
theorem size27 : Tryd.prog.cellsOf 27 = 5 := by kernel_rfl
theorem size81 : Tryd.prog.cellsOf 81 = 2 := by kernel_rfl
section
variable {H : Type} {enc : TypeId × Value → H} {W : World} {base : Nat} {r : Reach} {b0 : Nat} {spare : Nat → Bool} {held : Bool} {v : Value} {d : DataW H} {p : List MemPlace}
/-- A slice of claims, with how many there may be. -/
theorem claims_in (hv : Value.okWide Tryd.prog W r b0 22 v) (h : DataW.Trod enc Tryd.prog W base spare held 22 v d p) : ∃ l : List Clm, l.length ≤ 9223372036854775807 ∧ ((d.weights Tryd.prog 22).all (· ≤ reachBytes) = true → l.length * Tryd.prog.bytesOf 27 ≤ reachBytes) ∧ Den (ctxOf W) v (clsD l) := by
  obtain ⟨a, len, cap, rfl⟩ := okWide_slice Tryd.underlying22 hv
  obtain ⟨fuel, hf⟩ := h
  have hok : Cell.okWide Tryd.prog W r b0 22 (.slice a len cap) := by
    simpa only [Value.okWide, Tryd.underlying22] using hv
  obtain ⟨l, h1, h2, h3⟩ := flat_den (fun c : Clm => [.int .i64 c.a, .int .i64 c.b, .int .i64 c.lo, .int .i64 c.hi, .int .i64 c.by_]) (n := 5) (fun _ => rfl) (fun _ => rfl) ⟨0, 0, 0, 0, 0⟩ Tryd.underlying22 size27
    (fun hr => by
      obtain ⟨a, b, c, d, e, rfl⟩ := ints5_read Tryd.underlying27 size27 ⟨rfl, rfl⟩ ⟨rfl, rfl⟩ ⟨rfl, rfl⟩ ⟨rfl, rfl⟩ ⟨rfl, rfl⟩ Tryd.underlying3 size3 hr
      exact ⟨⟨a, b, c, d, e⟩, rfl⟩) hok hf
  exact ⟨l, h1, h2, h3⟩
/-- A chain. -/
theorem chain_in (hv : Value.okWide Tryd.prog W r b0 31 v) (h : DataW.Trod enc Tryd.prog W base spare held 31 v d p) : ∃ l : List Stp, l.length ≤ 9223372036854775807 ∧ Den (ctxOf W) v (stsD l) := by
  obtain ⟨a, len, cap, rfl⟩ := okWide_slice Tryd.underlying31 hv
  obtain ⟨fuel, hf⟩ := h
  have hok : Cell.okWide Tryd.prog W r b0 31 (.slice a len cap) := by
    simpa only [Value.okWide, Tryd.underlying31] using hv
  obtain ⟨l, h1, _, h3⟩ := flat_den (fun c : Stp => [.int .i64 c.c, .bool c.back]) (n := 2) (fun _ => rfl) (fun _ => rfl) ⟨0, false⟩ Tryd.underlying31 size81
    (fun hr => by
      obtain ⟨a, b, rfl⟩ := intbool_read Tryd.underlying81 size81 ⟨rfl, rfl⟩ ⟨rfl, rfl⟩ Tryd.underlying3 size3 Tryd.underlying4 size4 hr
      exact ⟨⟨a, b⟩, rfl⟩) hok hf
  exact ⟨l, h1, h3⟩
/-- A slice of numbers, with how many there may be. -/
theorem ints_in (hv : Value.okWide Tryd.prog W r b0 23 v) (h : DataW.Trod enc Tryd.prog W base spare held 23 v d p) : ∃ l : List Int, l.length ≤ 9223372036854775807 ∧ ((d.weights Tryd.prog 23).all (· ≤ reachBytes) = true → l.length * Tryd.prog.bytesOf 3 ≤ reachBytes) ∧ Den (ctxOf W) v (intsD l) := by
  obtain ⟨a, len, cap, rfl⟩ := okWide_slice Tryd.underlying23 hv
  obtain ⟨fuel, hf⟩ := h
  have hok : Cell.okWide Tryd.prog W r b0 23 (.slice a len cap) := by
    simpa only [Value.okWide, Tryd.underlying23] using hv
  obtain ⟨l, hl⟩ := ints_den Tryd.underlying23 Tryd.underlying3 size3 hok hf
  refine ⟨l, ?_, ?_, hl⟩
  · obtain ⟨b, c, e⟩ := den_len hl
    have e2 : len = l.length := by simpa using (Value.slice.inj e).2.1
    rcases open_slice Tryd.underlying23 hf with ⟨hcs, _⟩ | ⟨a', len', cap', m, n, Dd, Pl, hcs, _, h1, h2, _, _, _⟩
    · have := (Value.slice.inj (List.cons.inj hcs).1).2.1
      omega
    · have := (Value.slice.inj (List.cons.inj hcs).1).2.1
      simp [maxLen] at h2
      omega
  · obtain ⟨b, c, e⟩ := den_len hl
    have e2 : len = l.length := by simpa using (Value.slice.inj e).2.1
    intro hw
    rcases open_slice Tryd.underlying23 hf with ⟨hcs, _⟩ | ⟨a', len', cap', m, n, Dd, Pl, hcs, _, h1, h2, _, hx, _⟩
    · have := (Value.slice.inj (List.cons.inj hcs).1).2.1
      have h0 : l.length = 0 := by omega
      rw [h0]; simp
    · have h3 := (Value.slice.inj (List.cons.inj hcs).1).2.1
      obtain ⟨rfl, _⟩ := Prod.mk.inj hx
      simp only [DataW.weights, Tryd.underlying23, List.all_cons, Bool.and_eq_true, decide_eq_true_eq, List.length_map, List.length_range] at hw
      exact Nat.le_trans (Nat.mul_le_mul_right _ (by omega)) hw.1
theorem bytes27 : Tryd.prog.bytesOf 27 = 40 := by kernel_rfl
theorem bytes3 : Tryd.prog.bytesOf 3 = 8 := by kernel_rfl
end
end Go.Proofs.YtjgafgkkpofgbaaDoor
/- More arguments of the laws, as the evaluator sees them: a claim; a question. -/
namespace Go.Proofs.YtjgafgkkpofgbaaDoor
open Go Go.Em Go.RowKit Go.ChangeShapes Go.ChangeAt Go.WideShapes Go.Joins Go.Deep
set_option maxRecDepth 100000
section
variable {H : Type} {enc : TypeId × Value → H} {W : World} {base : Nat} {r : Reach} {b0 : Nat} {spare : Nat → Bool} {held : Bool} {v : Value} {d : DataW H} {p : List MemPlace}
theorem agg_of_struct {P : Program} {w : World} {t : TypeId} {fs : Array Field} {v : Value} (ht : P.underlying t = some (.struct fs)) (hv : Value.okWide P w r b0 t v) : ∃ cs, v = .agg cs := by
  simp only [Value.okWide, ht] at hv
  obtain ⟨cs, h, _⟩ := hv
  exact ⟨cs, h⟩
theorem claim_in (hv : Value.okWide Tryd.prog W r b0 27 v) (h : DataW.Trod enc Tryd.prog W base spare held 27 v d p) : ∃ c : Clm, Den (ctxOf W) v (clD c) := by
  obtain ⟨cs, rfl⟩ := agg_of_struct Tryd.underlying27 hv
  obtain ⟨fuel, hf⟩ := h
  obtain ⟨a, b, c, d, e, hcs⟩ := ints5_read Tryd.underlying27 size27 ⟨rfl, rfl⟩ ⟨rfl, rfl⟩ ⟨rfl, rfl⟩ ⟨rfl, rfl⟩ ⟨rfl, rfl⟩ Tryd.underlying3 size3 hf
  obtain ⟨l⟩ := cs
  have hl : l = [.int .i64 a, .int .i64 b, .int .i64 c, .int .i64 d, .int .i64 e] := hcs
  subst hl
  exact ⟨⟨a, b, c, d, e⟩, .agg [_, _, _, _, _] _ (.cons _ _ _ _ (.val _ rfl) (.cons _ _ _ _ (.val _ rfl) (.cons _ _ _ _ (.val _ rfl) (.cons _ _ _ _ (.val _ rfl) (.cons _ _ _ _ (.val _ rfl) .nil)))))⟩
theorem size56 : Tryd.prog.cellsOf 56 = 3 := by kernel_rfl
theorem ask_in (hv : Value.okWide Tryd.prog W r b0 56 v) (h : DataW.Trod enc Tryd.prog W base spare held 56 v d p) : ∃ a b c, Den (ctxOf W) v (.agg [D.int a, D.int b, D.int c]) := by
  obtain ⟨u0, u1, u2, y0, y1, y2, n, rfl, _, _, k0, k1, k2⟩ := open_agg3 Tryd.underlying56 (by kernel_rfl) size56 hv h
  obtain ⟨a, j0, _, _⟩ := DataW.trod_int Tryd.underlying3 (show DataW.trod enc Tryd.prog W base spare held n 3 [u0] = some y0 from k0)
  obtain ⟨b, j1, _, _⟩ := DataW.trod_int Tryd.underlying3 (show DataW.trod enc Tryd.prog W base spare held n 3 [u1] = some y1 from k1)
  obtain ⟨c, j2, _, _⟩ := DataW.trod_int Tryd.underlying3 (show DataW.trod enc Tryd.prog W base spare held n 3 [u2] = some y2 from k2)
  cases j0; cases j1; cases j2
  exact ⟨a, b, c, .agg [_, _, _] _ (.cons _ _ _ _ (.val _ rfl) (.cons _ _ _ _ (.val _ rfl) (.cons _ _ _ _ (.val _ rfl) .nil)))⟩
end
end Go.Proofs.YtjgafgkkpofgbaaDoor
/- More arguments of the laws, as the evaluator sees them: small numbers. -/
namespace Go.Proofs.YtjgafgkkpofgbaaDoor
open Go Go.Em Go.RowKit Go.ChangeShapes Go.ChangeAt Go.WideShapes Go.Joins Go.Deep
set_option maxRecDepth 100000
section
variable {H : Type} {enc : TypeId × Value → H} {P : Program} {w : World} {base : Nat} {spare : Nat → Bool} {held : Bool} {r : Reach} {b0 : Nat}
/-- A slice of small numbers. -/
theorem u8s_den {t e : TypeId} {fuel : Nat} {v : Value} {x : DataW H × List MemPlace} (ht : P.underlying t = some (.slice e)) (hi : P.underlying e = some (.int .u8)) (c1 : P.cellsOf e = 1)
    (hok : Cell.okWide P w r b0 t v) (h : DataW.trod enc P w base spare held fuel t [v] = some x) : ∃ l : List Int, Den (ctxOf w) v (.sl false (l.map fun c => D.val (.int .u8 c))) := by
  rcases open_slice ht h with ⟨hcs, _⟩ | ⟨a, len, cap, m, n, _, _, hcs, _, hlc, hcm, hm, _, hel⟩
  · cases hcs
    exact ⟨[], .slnil false⟩
  · cases hcs
    have hsp := spot_of ht hok
    obtain ⟨b, o, s⟩ := a
    simp only at hsp
    subst hsp
    have hlm : len ≤ m := by rw [hm]; split <;> omega
    have key : ∀ i, ∃ p : Int, i < len → w.cell? ⟨b, o + i, none⟩ = some (.int .u8 p) := by
      intro i
      by_cases hil : i < len
      · obtain ⟨cs', k1, k2⟩ := hel i (by omega)
        obtain ⟨p, rfl, _, _⟩ := DataW.trod_int hi k2
        refine ⟨p, fun _ => ?_⟩
        rw [c1] at k1
        unfold World.cells? at k1
        split at k1
        · simp only [addr_add] at k1
          simpa [List.range_succ, Option.bind_eq_some_iff] using k1
        · cases k1
      · exact ⟨0, fun h => absurd h hil⟩
    obtain ⟨f, hf⟩ := Classical.axiomOfChoice key
    refine ⟨(List.range len).map f, ?_⟩
    have hlen : (((List.range len).map f).map fun c => D.val (.int .u8 c)).length = len := by simp
    have hv : Value.slice (some ⟨b, o, none⟩) len cap = .slice (some ⟨b, o, none⟩) (((List.range len).map f).map fun c => D.val (.int .u8 c)).length cap := by rw [hlen]
    have hcells : ∀ l : List Int, (l.map fun c => D.val (.int .u8 c)).flatMap D.cells = l.map fun c => D.val (.int .u8 c) := by
      intro l
      induction l with
      | nil => rfl
      | cons a l ih => rw [List.map_cons, List.flatMap_cons, ih]; rfl
    rw [hv]
    refine .sl b o cap false 1 _ (((List.range len).map f).map fun p => .int .u8 p) (fun h => by cases h) (by rw [hlen]; exact hlc) hcm (fun e hm => ?_) (fun j v hj => ?_) ?_ ?_
    · obtain ⟨p, _, rfl⟩ := List.mem_map.1 hm
      rfl
    · rw [List.getElem?_map, List.getElem?_map] at hj
      simp only [Option.map_eq_some_iff] at hj
      obtain ⟨p, ⟨i', k3, rfl⟩, rfl⟩ := hj
      have hi' : j < len := by
        have := (List.getElem?_eq_some_iff.1 k3).1
        simpa using this
      rw [List.getElem?_range hi'] at k3
      obtain rfl := Option.some.inj k3
      exact ctxOf_cell (hf j hi')
    · simp [Value.oneCell']
    · rw [hcells]
      have hden : ∀ l : List Int, DenL (ctxOf w) (l.map fun p => Value.int .u8 p) (l.map fun c => D.val (.int .u8 c)) := by
        intro l
        induction l with
        | nil => exact .nil
        | cons a l ih => exact .cons _ _ _ _ (.val _ rfl) ih
      exact hden _
end
section
variable {H : Type} {enc : TypeId × Value → H} {W : World} {base : Nat} {r : Reach} {b0 : Nat} {spare : Nat → Bool} {held : Bool} {v : Value} {d : DataW H} {p : List MemPlace}
/-- A slice of small numbers, with how many there may be. -/
theorem u8s_in (hv : Value.okWide Tryd.prog W r b0 64 v) (h : DataW.Trod enc Tryd.prog W base spare held 64 v d p) : ∃ l : List Int, l.length ≤ 9223372036854775807 ∧ ((d.weights Tryd.prog 64).all (· ≤ reachBytes) = true → l.length * Tryd.prog.bytesOf 5 ≤ reachBytes) ∧ Den (ctxOf W) v (.sl false (l.map fun c => D.val (.int .u8 c))) := by
  obtain ⟨a, len, cap, rfl⟩ := okWide_slice Tryd.underlying64 hv
  obtain ⟨fuel, hf⟩ := h
  have hok : Cell.okWide Tryd.prog W r b0 64 (.slice a len cap) := by
    simpa only [Value.okWide, Tryd.underlying64] using hv
  obtain ⟨l, hl⟩ := u8s_den Tryd.underlying64 Tryd.underlying5 size5 hok hf
  refine ⟨l, ?_, ?_, hl⟩
  · obtain ⟨b, c, e⟩ := den_len hl
    have e2 : len = l.length := by simpa using (Value.slice.inj e).2.1
    rcases open_slice Tryd.underlying64 hf with ⟨hcs, _⟩ | ⟨a', len', cap', m, n, Dd, Pl, hcs, _, h1, h2, _, _, _⟩
    · have := (Value.slice.inj (List.cons.inj hcs).1).2.1
      omega
    · have := (Value.slice.inj (List.cons.inj hcs).1).2.1
      simp [maxLen] at h2
      omega
  · obtain ⟨b, c, e⟩ := den_len hl
    have e2 : len = l.length := by simpa using (Value.slice.inj e).2.1
    intro hw
    rcases open_slice Tryd.underlying64 hf with ⟨hcs, _⟩ | ⟨a', len', cap', m, n, Dd, Pl, hcs, _, h1, h2, _, hx, _⟩
    · have := (Value.slice.inj (List.cons.inj hcs).1).2.1
      have h0 : l.length = 0 := by omega
      rw [h0]; simp
    · have h3 := (Value.slice.inj (List.cons.inj hcs).1).2.1
      obtain ⟨rfl, _⟩ := Prod.mk.inj hx
      simp only [DataW.weights, Tryd.underlying64, List.all_cons, Bool.and_eq_true, decide_eq_true_eq, List.length_map, List.length_range] at hw
      exact Nat.le_trans (Nat.mul_le_mul_right _ (by omega)) hw.1
theorem bytes5 : Tryd.prog.bytesOf 5 = 1 := by kernel_rfl
end
end Go.Proofs.YtjgafgkkpofgbaaDoor
