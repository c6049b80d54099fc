/- Arguments of the laws, as the evaluator sees them. -/
import Derived.Test.YtlkpikdfbodhoaaDoorOk
import Derived.Test.YtlkpikdfbodhoaaDoorTz
import Derived.Test.YtlkpikdfbodhoaaDoorEmFlat
import Derived.Test.YtlkpikdfbodhoaaDoorCards
import Derived.SevenTiedAt
namespace Go.Proofs.YtlkpikdfbodhoaaDoor
open Go Go.Em Go.RowKit Go.ChangeShapes Go.ChangeAt Go.WideShapes Go.Joins Go.Deep
set_option maxRecDepth 100000
theorem size42 : Tryd.prog.cellsOf 42 = 5 := by kernel_rfl
theorem size61 : Tryd.prog.cellsOf 61 = 2 := by kernel_rfl
section
variable {H : Type} {enc : TypeId × Value → H} {W : World} {base : Nat} {r : Reach} {b0 : Nat} {spare : Nat → Bool} {held : Bool} {v : Value} {d : DataW H} {p : List MemPlace}
theorem claims_in (hv : Value.okWide Tryd.prog W r b0 22 v) (h : DataW.Trod enc Tryd.prog W base spare held 22 v d p) : ∃ l : List Clm, l.length ≤ 9223372036854775807 ∧ ((d.weights Tryd.prog 22).all (· ≤ reachBytes) = true → l.length * Tryd.prog.bytesOf 42 ≤ reachBytes) ∧ Den (ctxOf W) v (clsD l) := by
  obtain ⟨a, len, cap, rfl⟩ := okWide_slice Tryd.underlying22 hv
  obtain ⟨fuel, hf⟩ := h
  have hok : Cell.okWide Tryd.prog W r b0 22 (.slice a len cap) := by
    simpa only [Value.okWide, Tryd.underlying22] using hv
  obtain ⟨l, h1, h2, h3⟩ := flat_den (fun c : Clm => [.int .i64 c.a, .int .i64 c.b, .int .i64 c.lo, .int .i64 c.hi, .int .i64 c.by_]) (n := 5) (fun _ => rfl) (fun _ => rfl) ⟨0, 0, 0, 0, 0⟩ Tryd.underlying22 size42
    (fun hr => by
      obtain ⟨a, b, c, d, e, rfl⟩ := ints5_read Tryd.underlying42 size42 ⟨rfl, rfl⟩ ⟨rfl, rfl⟩ ⟨rfl, rfl⟩ ⟨rfl, rfl⟩ ⟨rfl, rfl⟩ Tryd.underlying3 size3 hr
      exact ⟨⟨a, b, c, d, e⟩, rfl⟩) hok hf
  exact ⟨l, h1, h2, h3⟩
theorem chain_in (hv : Value.okWide Tryd.prog W r b0 23 v) (h : DataW.Trod enc Tryd.prog W base spare held 23 v d p) : ∃ l : List Stp, l.length ≤ 9223372036854775807 ∧ Den (ctxOf W) v (stsD l) := by
  obtain ⟨a, len, cap, rfl⟩ := okWide_slice Tryd.underlying23 hv
  obtain ⟨fuel, hf⟩ := h
  have hok : Cell.okWide Tryd.prog W r b0 23 (.slice a len cap) := by
    simpa only [Value.okWide, Tryd.underlying23] using hv
  obtain ⟨l, h1, _, h3⟩ := flat_den (fun c : Stp => [.int .i64 c.c, .bool c.back]) (n := 2) (fun _ => rfl) (fun _ => rfl) ⟨0, false⟩ Tryd.underlying23 size61
    (fun hr => by
      obtain ⟨a, b, rfl⟩ := intbool_read Tryd.underlying61 size61 ⟨rfl, rfl⟩ ⟨rfl, rfl⟩ Tryd.underlying3 size3 Tryd.underlying4 size4 hr
      exact ⟨⟨a, b⟩, rfl⟩) hok hf
  exact ⟨l, h1, h3⟩
theorem ints_in (hv : Value.okWide Tryd.prog W r b0 31 v) (h : DataW.Trod enc Tryd.prog W base spare held 31 v d p) : ∃ l : List Int, l.length ≤ 9223372036854775807 ∧ ((d.weights Tryd.prog 31).all (· ≤ reachBytes) = true → l.length * Tryd.prog.bytesOf 3 ≤ reachBytes) ∧ Den (ctxOf W) v (intsD l) := by
  obtain ⟨a, len, cap, rfl⟩ := okWide_slice Tryd.underlying31 hv
  obtain ⟨fuel, hf⟩ := h
  have hok : Cell.okWide Tryd.prog W r b0 31 (.slice a len cap) := by
    simpa only [Value.okWide, Tryd.underlying31] using hv
  obtain ⟨l, hl⟩ := ints_den Tryd.underlying31 Tryd.underlying3 size3 hok hf
  refine ⟨l, ?_, ?_, hl⟩
  · obtain ⟨b, c, e⟩ := den_len hl
    have e2 : len = l.length := by simpa using (Value.slice.inj e).2.1
    rcases open_slice Tryd.underlying31 hf with ⟨hcs, _⟩ | ⟨a', len', cap', m, n, Dd, Pl, hcs, _, h1, h2, _, _, _⟩
    · have := (Value.slice.inj (List.cons.inj hcs).1).2.1
      omega
    · have := (Value.slice.inj (List.cons.inj hcs).1).2.1
      simp [maxLen] at h2
      omega
  · obtain ⟨b, c, e⟩ := den_len hl
    have e2 : len = l.length := by simpa using (Value.slice.inj e).2.1
    intro hw
    rcases open_slice Tryd.underlying31 hf with ⟨hcs, _⟩ | ⟨a', len', cap', m, n, Dd, Pl, hcs, _, h1, h2, _, hx, _⟩
    · have := (Value.slice.inj (List.cons.inj hcs).1).2.1
      have h0 : l.length = 0 := by omega
      rw [h0]; simp
    · have h3 := (Value.slice.inj (List.cons.inj hcs).1).2.1
      obtain ⟨rfl, _⟩ := Prod.mk.inj hx
      simp only [DataW.weights, Tryd.underlying31, List.all_cons, Bool.and_eq_true, decide_eq_true_eq, List.length_map, List.length_range] at hw
      exact Nat.le_trans (Nat.mul_le_mul_right _ (by omega)) hw.1
theorem bytes27 : Tryd.prog.bytesOf 42 = 40 := by kernel_rfl
theorem bytes3 : Tryd.prog.bytesOf 3 = 8 := by kernel_rfl
end
end Go.Proofs.YtlkpikdfbodhoaaDoor
/- More arguments of the laws, as the evaluator sees them: a claim; a question. -/
namespace Go.Proofs.YtlkpikdfbodhoaaDoor
open Go Go.Em Go.RowKit Go.ChangeShapes Go.ChangeAt Go.WideShapes Go.Joins Go.Deep
set_option maxRecDepth 100000
section
variable {H : Type} {enc : TypeId × Value → H} {W : World} {base : Nat} {r : Reach} {b0 : Nat} {spare : Nat → Bool} {held : Bool} {v : Value} {d : DataW H} {p : List MemPlace}
theorem agg_of_struct {P : Program} {w : World} {t : TypeId} {fs : Array Field} {v : Value} (ht : P.underlying t = some (.struct fs)) (hv : Value.okWide P w r b0 t v) : ∃ cs, v = .agg cs := by
  simp only [Value.okWide, ht] at hv
  obtain ⟨cs, h, _⟩ := hv
  exact ⟨cs, h⟩
theorem claim_in (hv : Value.okWide Tryd.prog W r b0 42 v) (h : DataW.Trod enc Tryd.prog W base spare held 42 v d p) : ∃ c : Clm, Den (ctxOf W) v (clD c) := by
  obtain ⟨cs, rfl⟩ := agg_of_struct Tryd.underlying42 hv
  obtain ⟨fuel, hf⟩ := h
  obtain ⟨a, b, c, d, e, hcs⟩ := ints5_read Tryd.underlying42 size42 ⟨rfl, rfl⟩ ⟨rfl, rfl⟩ ⟨rfl, rfl⟩ ⟨rfl, rfl⟩ ⟨rfl, rfl⟩ Tryd.underlying3 size3 hf
  obtain ⟨l⟩ := cs
  have hl : l = [.int .i64 a, .int .i64 b, .int .i64 c, .int .i64 d, .int .i64 e] := hcs
  subst hl
  exact ⟨⟨a, b, c, d, e⟩, .agg [_, _, _, _, _] _ (.cons _ _ _ _ (.val _ rfl) (.cons _ _ _ _ (.val _ rfl) (.cons _ _ _ _ (.val _ rfl) (.cons _ _ _ _ (.val _ rfl) (.cons _ _ _ _ (.val _ rfl) .nil)))))⟩
end
end Go.Proofs.YtlkpikdfbodhoaaDoor
