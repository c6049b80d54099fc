/- Arguments of the laws, as the evaluator sees them. -/
import Derived.Test.YtlfknfknlcgfcaaGreatDoorOk
import Derived.Test.YtlfknfknlcgfcaaGreatDoorTz
import Derived.Test.YtlfknfknlcgfcaaGreatDoorEmFlat
import Derived.Test.YtlfknfknlcgfcaaGreatDoorCards
import Derived.SevenTiedAt
namespace Go.Proofs.YtlfknfknlcgfcaaGreatDoor
open Go Go.Em Go.RowKit Go.ChangeShapes Go.ChangeAt Go.WideShapes Go.Joins Go.Deep
set_option maxRecDepth 100000
theorem size96 : Tryz.prog.cellsOf 96 = 5 := by kernel_rfl
theorem size166 : Tryz.prog.cellsOf 166 = 2 := by kernel_rfl
section
variable {H : Type} {enc : TypeId × Value → H} {W : World} {base : Nat} {r : Reach} {b0 : Nat} {spare : Nat → Bool} {held : Bool} {v : Value} {d : DataW H} {p : List MemPlace}
theorem claims_in (hv : Value.okWide Tryz.prog W r b0 22 v) (h : DataW.Trod enc Tryz.prog W base spare held 22 v d p) : ∃ l : List Clm, l.length ≤ 9223372036854775807 ∧ ((d.weights Tryz.prog 22).all (· ≤ reachBytes) = true → l.length * Tryz.prog.bytesOf 96 ≤ reachBytes) ∧ Den (ctxOf W) v (clsD l) := by
  obtain ⟨a, len, cap, rfl⟩ := okWide_slice Tryz.underlying22 hv
  obtain ⟨fuel, hf⟩ := h
  have hok : Cell.okWide Tryz.prog W r b0 22 (.slice a len cap) := by
    simpa only [Value.okWide, Tryz.underlying22] using hv
  obtain ⟨l, h1, h2, h3⟩ := flat_den (fun c : Clm => [.int .i64 c.a, .int .i64 c.b, .int .i64 c.lo, .int .i64 c.hi, .int .i64 c.by_]) (n := 5) (fun _ => rfl) (fun _ => rfl) ⟨0, 0, 0, 0, 0⟩ Tryz.underlying22 size96
    (fun hr => by
      obtain ⟨a, b, c, d, e, rfl⟩ := ints5_read Tryz.underlying96 size96 ⟨rfl, rfl⟩ ⟨rfl, rfl⟩ ⟨rfl, rfl⟩ ⟨rfl, rfl⟩ ⟨rfl, rfl⟩ Tryz.underlying3 size3 hr
      exact ⟨⟨a, b, c, d, e⟩, rfl⟩) hok hf
  exact ⟨l, h1, h2, h3⟩
theorem chain_in (hv : Value.okWide Tryz.prog W r b0 40 v) (h : DataW.Trod enc Tryz.prog W base spare held 40 v d p) : ∃ l : List Stp, l.length ≤ 9223372036854775807 ∧ Den (ctxOf W) v (stsD l) := by
  obtain ⟨a, len, cap, rfl⟩ := okWide_slice Tryz.underlying40 hv
  obtain ⟨fuel, hf⟩ := h
  have hok : Cell.okWide Tryz.prog W r b0 40 (.slice a len cap) := by
    simpa only [Value.okWide, Tryz.underlying40] using hv
  obtain ⟨l, h1, _, h3⟩ := flat_den (fun c : Stp => [.int .i64 c.c, .bool c.back]) (n := 2) (fun _ => rfl) (fun _ => rfl) ⟨0, false⟩ Tryz.underlying40 size166
    (fun hr => by
      obtain ⟨a, b, rfl⟩ := intbool_read Tryz.underlying166 size166 ⟨rfl, rfl⟩ ⟨rfl, rfl⟩ Tryz.underlying3 size3 Tryz.underlying4 size4 hr
      exact ⟨⟨a, b⟩, rfl⟩) hok hf
  exact ⟨l, h1, h3⟩
theorem ints_in (hv : Value.okWide Tryz.prog W r b0 26 v) (h : DataW.Trod enc Tryz.prog W base spare held 26 v d p) : ∃ l : List Int, l.length ≤ 9223372036854775807 ∧ ((d.weights Tryz.prog 26).all (· ≤ reachBytes) = true → l.length * Tryz.prog.bytesOf 3 ≤ reachBytes) ∧ Den (ctxOf W) v (intsD l) := by
  obtain ⟨a, len, cap, rfl⟩ := okWide_slice Tryz.underlying26 hv
  obtain ⟨fuel, hf⟩ := h
  have hok : Cell.okWide Tryz.prog W r b0 26 (.slice a len cap) := by
    simpa only [Value.okWide, Tryz.underlying26] using hv
  obtain ⟨l, hl⟩ := ints_den Tryz.underlying26 Tryz.underlying3 size3 hok hf
  refine ⟨l, ?_, ?_, hl⟩
  · obtain ⟨b, c, e⟩ := den_len hl
    have e2 : len = l.length := by simpa using (Value.slice.inj e).2.1
    rcases open_slice Tryz.underlying26 hf with ⟨hcs, _⟩ | ⟨a', len', cap', m, n, Dd, Pl, hcs, _, h1, h2, _, _, _⟩
    · have := (Value.slice.inj (List.cons.inj hcs).1).2.1
      omega
    · have := (Value.slice.inj (List.cons.inj hcs).1).2.1
      simp [maxLen] at h2
      omega
  · obtain ⟨b, c, e⟩ := den_len hl
    have e2 : len = l.length := by simpa using (Value.slice.inj e).2.1
    intro hw
    rcases open_slice Tryz.underlying26 hf with ⟨hcs, _⟩ | ⟨a', len', cap', m, n, Dd, Pl, hcs, _, h1, h2, _, hx, _⟩
    · have := (Value.slice.inj (List.cons.inj hcs).1).2.1
      have h0 : l.length = 0 := by omega
      rw [h0]; simp
    · have h3 := (Value.slice.inj (List.cons.inj hcs).1).2.1
      obtain ⟨rfl, _⟩ := Prod.mk.inj hx
      simp only [DataW.weights, Tryz.underlying26, List.all_cons, Bool.and_eq_true, decide_eq_true_eq, List.length_map, List.length_range] at hw
      exact Nat.le_trans (Nat.mul_le_mul_right _ (by omega)) hw.1
theorem bytes27 : Tryz.prog.bytesOf 96 = 40 := by kernel_rfl
theorem bytes3 : Tryz.prog.bytesOf 3 = 8 := by kernel_rfl
end
end Go.Proofs.YtlfknfknlcgfcaaGreatDoor
