/- Arguments of the laws, as the evaluator sees them: a slice of numbers. -/
import Derived.Test.YtngjpeoloaeneaaGreatDoorIn
import Derived.Test.YtngjpeoloaeneaaGreatDoorFm1
namespace Go.Proofs.YtngjpeoloaeneaaGreatDoor
open Go Go.Em Go.RowKit Go.ChangeShapes Go.ChangeAt Go.WideShapes Go.Joins Go.Deep
set_option maxRecDepth 100000
section
variable {H : Type} {enc : TypeId × Value → H} {W : World} {base : Nat} {r : Reach} {b0 : Nat} {spare : Nat → Bool} {held : Bool} {v : Value} {d : DataW H} {p : List MemPlace}
theorem ints_in (hv : Value.okWide Tryz.prog W r b0 44 v) (h : DataW.Trod enc Tryz.prog W base spare held 44 v d p) : ∃ l : List Int, l.length ≤ 9223372036854775807 ∧ ((d.weights Tryz.prog 44).all (· ≤ reachBytes) = true → l.length * Tryz.prog.bytesOf 3 ≤ reachBytes) ∧ Den (ctxOf W) v (intsD l) := by
  obtain ⟨a, len, cap, rfl⟩ := okWide_slice Tryz.underlying44 hv
  obtain ⟨fuel, hf⟩ := h
  have hok : Cell.okWide Tryz.prog W r b0 44 (.slice a len cap) := by
    simpa only [Value.okWide, Tryz.underlying44] using hv
  obtain ⟨l, hl⟩ := ints_den Tryz.underlying44 Tryz.underlying3 size3 hok hf
  refine ⟨l, ?_, ?_, hl⟩
  · obtain ⟨b, c, e⟩ := den_len hl
    have e2 : len = l.length := by simpa using (Value.slice.inj e).2.1
    rcases open_slice Tryz.underlying44 hf with ⟨hcs, _⟩ | ⟨a', len', cap', m, n, Dd, Pl, hcs, _, h1, h2, _, _, _⟩
    · have := (Value.slice.inj (List.cons.inj hcs).1).2.1
      omega
    · have := (Value.slice.inj (List.cons.inj hcs).1).2.1
      simp [maxLen] at h2
      omega
  · obtain ⟨b, c, e⟩ := den_len hl
    have e2 : len = l.length := by simpa using (Value.slice.inj e).2.1
    intro hw
    rcases open_slice Tryz.underlying44 hf with ⟨hcs, _⟩ | ⟨a', len', cap', m, n, Dd, Pl, hcs, _, h1, h2, _, hx, _⟩
    · have := (Value.slice.inj (List.cons.inj hcs).1).2.1
      have h0 : l.length = 0 := by omega
      rw [h0]; simp
    · have h3 := (Value.slice.inj (List.cons.inj hcs).1).2.1
      obtain ⟨rfl, _⟩ := Prod.mk.inj hx
      simp only [DataW.weights, Tryz.underlying44, List.all_cons, Bool.and_eq_true, decide_eq_true_eq, List.length_map, List.length_range] at hw
      exact Nat.le_trans (Nat.mul_le_mul_right _ (by omega)) hw.1
end
end Go.Proofs.YtngjpeoloaeneaaGreatDoor
