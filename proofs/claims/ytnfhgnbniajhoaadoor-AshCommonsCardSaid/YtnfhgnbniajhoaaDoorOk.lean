/- The table of small code is the program's own; what memory holds when a law is called. -/
import Derived.Test.YtnfhgnbniajhoaaDoorPg
import Derived.Test.YtnfhgnbniajhoaaDoorTie
import Derived.Test.YtnfhgnbniajhoaaDoorEmY
import Derived.ProofKit
import Derived.LaidMore
import Derived.OpenShut
import Derived.Stop.Joined
namespace Go.Proofs.YtnfhgnbniajhoaaDoor
open Go Go.Em Go.RowKit Go.ChangeShapes
set_option maxRecDepth 100000
theorem pg_ok : PgOk Tryd.prog pg := by
  intro f fc h
  change codeAt f = some fc at h
  unfold codeAt at h
  rcases bif_or h with h | h
  · rcases bif_or h with h | h
    · rcases bif_or h with h | h
      · rcases bif_or h with h | h
        · rcases bif_or h with h | h
          · obtain ⟨e, rfl⟩ := bif_one h
            obtain rfl := Nat.eq_of_beq_eq_true e
            exact kc3
          · rcases bif_or h with h | h
            · obtain ⟨e, rfl⟩ := bif_one h
              obtain rfl := Nat.eq_of_beq_eq_true e
              exact kc6
            · obtain ⟨e, rfl⟩ := bif_one h
              obtain rfl := Nat.eq_of_beq_eq_true e
              exact kc7
        · rcases bif_or h with h | h
          · obtain ⟨e, rfl⟩ := bif_one h
            obtain rfl := Nat.eq_of_beq_eq_true e
            exact kc8
          · rcases bif_or h with h | h
            · obtain ⟨e, rfl⟩ := bif_one h
              obtain rfl := Nat.eq_of_beq_eq_true e
              exact kc9
            · obtain ⟨e, rfl⟩ := bif_one h
              obtain rfl := Nat.eq_of_beq_eq_true e
              exact kc10
      · rcases bif_or h with h | h
        · rcases bif_or h with h | h
          · obtain ⟨e, rfl⟩ := bif_one h
            obtain rfl := Nat.eq_of_beq_eq_true e
            exact kc22
          · rcases bif_or h with h | h
            · obtain ⟨e, rfl⟩ := bif_one h
              obtain rfl := Nat.eq_of_beq_eq_true e
              exact kc23
            · obtain ⟨e, rfl⟩ := bif_one h
              obtain rfl := Nat.eq_of_beq_eq_true e
              exact kc24
        · rcases bif_or h with h | h
          · obtain ⟨e, rfl⟩ := bif_one h
            obtain rfl := Nat.eq_of_beq_eq_true e
            exact kc25
          · rcases bif_or h with h | h
            · obtain ⟨e, rfl⟩ := bif_one h
              obtain rfl := Nat.eq_of_beq_eq_true e
              exact kc26
            · obtain ⟨e, rfl⟩ := bif_one h
              obtain rfl := Nat.eq_of_beq_eq_true e
              exact kc27
    · rcases bif_or h with h | h
      · rcases bif_or h with h | h
        · rcases bif_or h with h | h
          · obtain ⟨e, rfl⟩ := bif_one h
            obtain rfl := Nat.eq_of_beq_eq_true e
            exact kc36
          · rcases bif_or h with h | h
            · obtain ⟨e, rfl⟩ := bif_one h
              obtain rfl := Nat.eq_of_beq_eq_true e
              exact kc37
            · obtain ⟨e, rfl⟩ := bif_one h
              obtain rfl := Nat.eq_of_beq_eq_true e
              exact kc39
        · rcases bif_or h with h | h
          · obtain ⟨e, rfl⟩ := bif_one h
            obtain rfl := Nat.eq_of_beq_eq_true e
            exact kc44
          · rcases bif_or h with h | h
            · obtain ⟨e, rfl⟩ := bif_one h
              obtain rfl := Nat.eq_of_beq_eq_true e
              exact kc45
            · obtain ⟨e, rfl⟩ := bif_one h
              obtain rfl := Nat.eq_of_beq_eq_true e
              exact kc46
      · rcases bif_or h with h | h
        · rcases bif_or h with h | h
          · obtain ⟨e, rfl⟩ := bif_one h
            obtain rfl := Nat.eq_of_beq_eq_true e
            exact kc47
          · rcases bif_or h with h | h
            · obtain ⟨e, rfl⟩ := bif_one h
              obtain rfl := Nat.eq_of_beq_eq_true e
              exact kc48
            · obtain ⟨e, rfl⟩ := bif_one h
              obtain rfl := Nat.eq_of_beq_eq_true e
              exact kc49
        · rcases bif_or h with h | h
          · obtain ⟨e, rfl⟩ := bif_one h
            obtain rfl := Nat.eq_of_beq_eq_true e
            exact kc50
          · rcases bif_or h with h | h
            · obtain ⟨e, rfl⟩ := bif_one h
              obtain rfl := Nat.eq_of_beq_eq_true e
              exact kc51
            · obtain ⟨e, rfl⟩ := bif_one h
              obtain rfl := Nat.eq_of_beq_eq_true e
              exact kc52
  · rcases bif_or h with h | h
    · rcases bif_or h with h | h
      · rcases bif_or h with h | h
        · rcases bif_or h with h | h
          · obtain ⟨e, rfl⟩ := bif_one h
            obtain rfl := Nat.eq_of_beq_eq_true e
            exact kc53
          · rcases bif_or h with h | h
            · obtain ⟨e, rfl⟩ := bif_one h
              obtain rfl := Nat.eq_of_beq_eq_true e
              exact kc57
            · obtain ⟨e, rfl⟩ := bif_one h
              obtain rfl := Nat.eq_of_beq_eq_true e
              exact kc59
        · rcases bif_or h with h | h
          · obtain ⟨e, rfl⟩ := bif_one h
            obtain rfl := Nat.eq_of_beq_eq_true e
            exact kc60
          · rcases bif_or h with h | h
            · obtain ⟨e, rfl⟩ := bif_one h
              obtain rfl := Nat.eq_of_beq_eq_true e
              exact kc61
            · obtain ⟨e, rfl⟩ := bif_one h
              obtain rfl := Nat.eq_of_beq_eq_true e
              exact kc62
      · rcases bif_or h with h | h
        · rcases bif_or h with h | h
          · obtain ⟨e, rfl⟩ := bif_one h
            obtain rfl := Nat.eq_of_beq_eq_true e
            exact kc63
          · rcases bif_or h with h | h
            · obtain ⟨e, rfl⟩ := bif_one h
              obtain rfl := Nat.eq_of_beq_eq_true e
              exact kc64
            · obtain ⟨e, rfl⟩ := bif_one h
              obtain rfl := Nat.eq_of_beq_eq_true e
              exact kc65
        · rcases bif_or h with h | h
          · obtain ⟨e, rfl⟩ := bif_one h
            obtain rfl := Nat.eq_of_beq_eq_true e
            exact kc66
          · rcases bif_or h with h | h
            · obtain ⟨e, rfl⟩ := bif_one h
              obtain rfl := Nat.eq_of_beq_eq_true e
              exact kc67
            · obtain ⟨e, rfl⟩ := bif_one h
              obtain rfl := Nat.eq_of_beq_eq_true e
              exact kc73
    · rcases bif_or h with h | h
      · rcases bif_or h with h | h
        · rcases bif_or h with h | h
          · obtain ⟨e, rfl⟩ := bif_one h
            obtain rfl := Nat.eq_of_beq_eq_true e
            exact kc74
          · rcases bif_or h with h | h
            · obtain ⟨e, rfl⟩ := bif_one h
              obtain rfl := Nat.eq_of_beq_eq_true e
              exact kc75
            · obtain ⟨e, rfl⟩ := bif_one h
              obtain rfl := Nat.eq_of_beq_eq_true e
              exact kc76
        · rcases bif_or h with h | h
          · obtain ⟨e, rfl⟩ := bif_one h
            obtain rfl := Nat.eq_of_beq_eq_true e
            exact kc77
          · rcases bif_or h with h | h
            · obtain ⟨e, rfl⟩ := bif_one h
              obtain rfl := Nat.eq_of_beq_eq_true e
              exact kc78
            · obtain ⟨e, rfl⟩ := bif_one h
              obtain rfl := Nat.eq_of_beq_eq_true e
              exact kc85
      · rcases bif_or h with h | h
        · rcases bif_or h with h | h
          · obtain ⟨e, rfl⟩ := bif_one h
            obtain rfl := Nat.eq_of_beq_eq_true e
            exact kc91
          · rcases bif_or h with h | h
            · obtain ⟨e, rfl⟩ := bif_one h
              obtain rfl := Nat.eq_of_beq_eq_true e
              exact kc92
            · obtain ⟨e, rfl⟩ := bif_one h
              obtain rfl := Nat.eq_of_beq_eq_true e
              exact kc93
        · rcases bif_or h with h | h
          · obtain ⟨e, rfl⟩ := bif_one h
            obtain rfl := Nat.eq_of_beq_eq_true e
            exact kc94
          · rcases bif_or h with h | h
            · obtain ⟨e, rfl⟩ := bif_one h
              obtain rfl := Nat.eq_of_beq_eq_true e
              exact kc100
            · obtain ⟨e, rfl⟩ := bif_one h
              obtain rfl := Nat.eq_of_beq_eq_true e
              exact kc101
theorem own : ownKnob Tryd.prog.godebug = none := by kernel_rfl
theorem laidOk : laidOutB Tryd.prog = true := by kernel_rfl
theorem gNov : Tryd.prog.globalNamed "gyttja/ash.noValues" = some 0 := by kernel_rfl
theorem tNov : (Tryd.prog.globals[0]?).map (·.type) = some 25 := by kernel_rfl
theorem size3 : Tryd.prog.cellsOf 3 = 1 := by kernel_rfl
theorem size25 : Tryd.prog.cellsOf 25 = 2 := by kernel_rfl
theorem size26 : Tryd.prog.cellsOf 26 = 6 := by kernel_rfl
theorem size31 : Tryd.prog.cellsOf 31 = 8 := by kernel_rfl
abbrev laid1 {H : Type} : List (String × DataW H) := [("gyttja/ash.noValues", Rows.laid_gyttja_ash_noValues)]
theorem door_met (os : Os) (args : Array Value) : laidMetH Tryd.prog laid1 ((World.doorLaid Tryd.prog 400 os).forCall (fun _ _ => 0) ⟨#[], args, []⟩).memory :=
  laidMetH_of_parts3 (fuel := 8) (laidMet_of_run' 8 (by kernel_rfl) (by kernel_rfl)) (by kernel_rfl) (by kernel_rfl)
theorem gl_pure : ∀ g cs, pg.gl g = some cs → D.pureL cs = true := by
  intro g cs h
  obtain ⟨_, rfl⟩ := bif_one h
  rfl
theorem band_val {H : Type} {enc : TypeId × Value → H} {P : Program} {w : World} {base : Nat} {spare : Nat → Bool} {held : Bool} {t ti : TypeId} {f0 f1 : Field} {fuel : Nat} {cs : List Value} {x : DataW H × List MemPlace} (ht : P.underlying t = some (.struct #[f0, f1])) (hC : P.cellsOf t = 2) (h0 : f0.type = ti ∧ f0.offset = 0) (h1 : f1.type = ti ∧ f1.offset = 1)
    (hi : P.underlying ti = some (.int .i64)) (c1 : P.cellsOf ti = 1) (h : DataW.trod enc P w base spare held fuel t cs = some x) : ∃ a b, cs = [.int .i64 a, .int .i64 b] ∧ x.1 = .agg [.lit (.int .i64 a), .lit (.int .i64 b)] := by
  obtain ⟨xs, n, rfl, rfl, hl, hn, hf⟩ := DataW.trod_struct ht h
  have e0 := hf 0 f0 rfl
  have e1 := hf 1 f1 rfl
  rw [h0.1, h0.2, c1] at e0
  rw [h1.1, h1.2, c1] at e1
  rw [hC] at hl
  match cs, hl with
  | [u0, u1], _ =>
    match xs, hn with
    | [x0, x1], _ =>
      obtain ⟨a, j0, j2, _⟩ := DataW.trod_int hi (show DataW.trod enc P w base spare held n ti _ = some x0 from e0)
      obtain ⟨b, j1, j3, _⟩ := DataW.trod_int hi (show DataW.trod enc P w base spare held n ti _ = some x1 from e1)
      simp at j0 j1
      subst j0 j1
      exact ⟨a, b, rfl, by rw [j2, j3]; rfl⟩
theorem words_in {W : World} (h : laidMetH Tryd.prog laid1 W) : ∀ g cs, pg.gl g = some cs → Den (ctxOf W) (.pointer (some ⟨g, 0, none⟩)) (.eref cs) := by
  intro g cs hg
  obtain ⟨h0, rfl⟩ := bif_one hg
  obtain rfl := Nat.eq_of_beq_eq_true h0
  rw [MakeChecks.laidMetH_plain _ _ _ (by kernel_rfl)] at h
  obtain ⟨ps, ⟨g0, t0, cs0, f0, p0, q0, hg0, ht0, hv0, hd0, _, _⟩, _, _⟩ := h
  obtain rfl := Option.some.inj (gNov.symm.trans hg0)
  obtain rfl := Option.some.inj (tNov.symm.trans ht0)
  obtain ⟨a, b, j1, j2⟩ := band_val Tryd.underlying25 size25 ⟨rfl, rfl⟩ ⟨rfl, rfl⟩ Tryd.underlying3 size3 hd0
  simp only [Rows.laid_gyttja_ash_noValues, DataW.agg.injEq, List.cons.injEq, DataW.lit.injEq, Lit.int.injEq, true_and, and_true] at j2
  obtain ⟨rfl, rfl⟩ := j2
  refine .eref 0 0 [.int .i64 1, .int .i64 0] _ (fun j v h => ctxOf_cell ?_) (vals_den rfl)
  rw [Nat.zero_add, World.var?_cell hg0 hv0 j, ← Array.getElem?_toList, j1]
  exact h
end Go.Proofs.YtnfhgnbniajhoaaDoor
