/- A world as an argument: whatever claims, questions and choices of claims. -/
import Derived.Test.YtlfknfknlcgfcaaGreatDoorIn
import Derived.Test.YtlfknfknlcgfcaaGreatDoorY1
import Derived.Test.YtlfknfknlcgfcaaGreatDoorEmFlat
import Derived.Test.YtlfknfknlcgfcaaGreatDoorKp1
namespace Go.Proofs.YtlfknfknlcgfcaaGreatDoor
open Go Go.Em Go.RowKit Go.ChangeShapes Go.ChangeAt Go.WideShapes Go.Joins Go.Deep
set_option maxRecDepth 100000
theorem size22 : Tryz.prog.cellsOf 22 = 1 := by kernel_rfl
theorem size23 : Tryz.prog.cellsOf 23 = 1 := by kernel_rfl
theorem size25 : Tryz.prog.cellsOf 25 = 2 := by kernel_rfl
theorem size81 : Tryz.prog.cellsOf 81 = 1 := by kernel_rfl
theorem size83 : Tryz.prog.cellsOf 83 = 2 := by kernel_rfl
theorem bytes22 : Tryz.prog.bytesOf 22 = 24 := by kernel_rfl
theorem bytes28 : Tryz.prog.bytesOf 83 = 32 := by kernel_rfl
structure WOk (w : Wld) : Prop where
  cl : w.cl.length * 40 ≤ reachBytes
  qs : w.qs.length * 32 ≤ reachBytes
  ch : ∀ q ∈ w.qs, q.ch.length * 24 ≤ reachBytes ∧ ∀ l ∈ q.ch, l.length * 40 ≤ reachBytes
section
variable {H : Type} {enc : TypeId × Value → H} {W : World} {base : Nat} {r : Reach} {b0 : Nat} {spare : Nat → Bool} {held : Bool} {v : Value} {d : DataW H} {p : List MemPlace}
theorem agg_of_struct {P : Program} {w : World} {t : TypeId} {fs : Array Field} {v : Value} (ht : P.underlying t = some (.struct fs)) (hv : Value.okWide P w r b0 t v) : ∃ cs, v = .agg cs := by
  simp only [Value.okWide, ht] at hv
  obtain ⟨cs, h, _⟩ := hv
  exact ⟨cs, h⟩
theorem reads_i : Reads enc Tryz.prog W base spare held 3 (fun n : Int => [D.int n]) (fun _ => True) :=
  (reads_int Tryz.underlying3).map id (fun _ => rfl) (fun _ _ => trivial)
theorem reads_claim : Reads enc Tryz.prog W base spare held 96 clC (fun _ => True) := by
  have := reads_struct (enc := enc) (w := W) (base := base) (spare := spare) (held := held) Tryz.underlying96 (by
    rw [size96]
    exact freads_cons (o := 0) reads_i rfl size3 (freads_cons (o := 1) reads_i rfl size3 (freads_cons (o := 2) reads_i rfl size3 (freads_cons (o := 3) reads_i rfl size3 (freads_cons (o := 4) reads_i rfl size3 freads_nil)))))
  exact this.map (fun x => (⟨x.1, x.2.1, x.2.2.1, x.2.2.2.1, x.2.2.2.2.1⟩ : Clm)) (fun _ => rfl) (fun _ _ => trivial)
theorem reads_cls : Reads enc Tryz.prog W base spare held 22 (fun l : List Clm => [clsD l]) (fun l => l.length * 40 ≤ reachBytes) :=
  (reads_aggs Tryz.underlying22 size96 (by omega) (fun _ => rfl) (fun _ => rfl) reads_claim).map id (fun _ => rfl) (fun a h => by have := h.1; rw [bytes27] at this; exact this)
theorem reads_ch : Reads enc Tryz.prog W base spare held 81 (fun l : List (List Clm) => [chD l]) (fun l => l.length * 24 ≤ reachBytes ∧ ∀ c ∈ l, c.length * 40 ≤ reachBytes) :=
  (reads_slice (fun l : List Clm => clsD l) Tryz.underlying81 size22 (by omega) (fun _ => rfl) (fun _ => rfl) (fun _ => rfl) reads_cls).map id (fun _ => rfl) (fun a h => ⟨by have := h.1; rw [bytes22] at this; exact this, h.2⟩)
theorem reads_q : Reads enc Tryz.prog W base spare held 83 qC (fun q => q.ch.length * 24 ≤ reachBytes ∧ ∀ l ∈ q.ch, l.length * 40 ≤ reachBytes) := by
  have := reads_struct (enc := enc) (w := W) (base := base) (spare := spare) (held := held) Tryz.underlying83 (by
    rw [size83]
    exact freads_cons (o := 0) reads_i rfl size3 (freads_cons (o := 1) reads_ch rfl size81 freads_nil))
  exact this.map (fun x => (⟨x.1, x.2.1⟩ : Qst)) (fun _ => rfl) (fun _ h => h.2.1)
theorem reads_qs : Reads enc Tryz.prog W base spare held 23 (fun l : List Qst => [qsD l]) (fun l => l.length * 32 ≤ reachBytes ∧ ∀ q ∈ l, q.ch.length * 24 ≤ reachBytes ∧ ∀ c ∈ q.ch, c.length * 40 ≤ reachBytes) :=
  (reads_aggs Tryz.underlying23 size83 (by omega) (fun _ => rfl) (fun _ => rfl) reads_q).map id (fun _ => rfl) (fun a h => ⟨by have := h.1; rw [bytes28] at this; exact this, h.2⟩)
theorem world_in (hv : Value.okWide Tryz.prog W r b0 25 v) (h : DataW.Trod enc Tryz.prog W base spare held 25 v d p) : ∃ w : Wld, ((d.weights Tryz.prog 25).all (· ≤ reachBytes) = true → WOk w) ∧ Den (ctxOf W) v (wD w) := by
  obtain ⟨cs, rfl⟩ := agg_of_struct Tryz.underlying25 hv
  have := reads_struct (enc := enc) (w := W) (base := base) (spare := spare) (held := held) Tryz.underlying25 (by
    rw [size25]
    exact freads_cons (o := 0) reads_cls rfl size22 (freads_cons (o := 1) reads_qs rfl size23 freads_nil))
  obtain ⟨a, ha, hw⟩ := this.agg h
  exact ⟨⟨a.1, a.2.1⟩, fun hz => ⟨(hw hz).1, (hw hz).2.1.1, (hw hz).2.1.2⟩, ha⟩
end
end Go.Proofs.YtlfknfknlcgfcaaGreatDoor
/- Lists of years as an argument. -/
namespace Go.Proofs.YtlfknfknlcgfcaaGreatDoor
open Go Go.Em Go.RowKit Go.ChangeShapes Go.ChangeAt Go.WideShapes Go.Joins Go.Deep
set_option maxRecDepth 100000
theorem size73 : Tryz.prog.cellsOf 73 = 2 := by kernel_rfl
theorem bytes73 : Tryz.prog.bytesOf 73 = 16 := by kernel_rfl
section
variable {H : Type} {enc : TypeId × Value → H} {W : World} {base : Nat} {r : Reach} {b0 : Nat} {spare : Nat → Bool} {held : Bool} {v : Value} {d : DataW H} {p : List MemPlace}
theorem dated_in (hv : Value.okWide Tryz.prog W r b0 62 v) (h : DataW.Trod enc Tryz.prog W base spare held 62 v d p) : ∃ l : List Dt, l.length ≤ 9223372036854775807 ∧ ((d.weights Tryz.prog 62).all (· ≤ reachBytes) = true → l.length * Tryz.prog.bytesOf 73 ≤ reachBytes) ∧ Den (ctxOf W) v (dtsD l) := by
  obtain ⟨a, len, cap, rfl⟩ := okWide_slice Tryz.underlying62 hv
  obtain ⟨fuel, hf⟩ := h
  have hok : Cell.okWide Tryz.prog W r b0 62 (.slice a len cap) := by
    simpa only [Value.okWide, Tryz.underlying62] using hv
  obtain ⟨l, h1, h2, h3⟩ := flat_den (fun c : Dt => [.int .i64 c.m, .int .i64 c.y]) (n := 2) (fun _ => rfl) (fun _ => rfl) ⟨0, 0⟩ Tryz.underlying62 size73
    (fun hr => by
      obtain ⟨a, b, rfl⟩ := ints2_read Tryz.underlying73 size73 ⟨rfl, rfl⟩ ⟨rfl, rfl⟩ Tryz.underlying3 size3 hr
      exact ⟨⟨a, b⟩, rfl⟩) hok hf
  exact ⟨l, h1, h2, h3⟩
end
end Go.Proofs.YtlfknfknlcgfcaaGreatDoor
