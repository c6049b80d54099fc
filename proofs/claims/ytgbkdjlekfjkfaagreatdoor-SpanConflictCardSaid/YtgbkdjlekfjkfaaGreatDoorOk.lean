/- The table of small code is the program's own; what memory holds when a law is called. -/
import Derived.Test.YtgbkdjlekfjkfaaGreatDoorPg
import Derived.Test.YtgbkdjlekfjkfaaGreatDoorTie
import Derived.Test.YtgbkdjlekfjkfaaGreatDoorEmW
import Derived.ProofKit
import Derived.LaidMore
import Derived.OpenShut
import Derived.Stop.Joined
namespace Go.Proofs.YtgbkdjlekfjkfaaGreatDoor
open Go Go.Em Go.RowKit Go.ChangeShapes
set_option maxRecDepth 100000
theorem pg_ok : PgOk Tryz.prog pg := by
  intro f fc h
  change codeAt f = some fc at h
  unfold codeAt at h
  rcases bif_or h with h | h
  · rcases bif_or h with h | h
    · rcases bif_or h with h | h
      · rcases bif_or h with h | h
        · rcases bif_or h with h | h
          · rcases bif_or h with h | h
            · obtain ⟨e, rfl⟩ := bif_one h
              obtain rfl := Nat.eq_of_beq_eq_true e
              exact kc5
            · rcases bif_or h with h | h
              · obtain ⟨e, rfl⟩ := bif_one h
                obtain rfl := Nat.eq_of_beq_eq_true e
                exact kc9
              · obtain ⟨e, rfl⟩ := bif_one h
                obtain rfl := Nat.eq_of_beq_eq_true e
                exact kc10
          · rcases bif_or h with h | h
            · obtain ⟨e, rfl⟩ := bif_one h
              obtain rfl := Nat.eq_of_beq_eq_true e
              exact kc11
            · rcases bif_or h with h | h
              · obtain ⟨e, rfl⟩ := bif_one h
                obtain rfl := Nat.eq_of_beq_eq_true e
                exact kc13
              · obtain ⟨e, rfl⟩ := bif_one h
                obtain rfl := Nat.eq_of_beq_eq_true e
                exact kc18
        · rcases bif_or h with h | h
          · rcases bif_or h with h | h
            · obtain ⟨e, rfl⟩ := bif_one h
              obtain rfl := Nat.eq_of_beq_eq_true e
              exact kc19
            · rcases bif_or h with h | h
              · obtain ⟨e, rfl⟩ := bif_one h
                obtain rfl := Nat.eq_of_beq_eq_true e
                exact kc20
              · obtain ⟨e, rfl⟩ := bif_one h
                obtain rfl := Nat.eq_of_beq_eq_true e
                exact kc21
          · rcases bif_or h with h | h
            · rcases bif_or h with h | h
              · obtain ⟨e, rfl⟩ := bif_one h
                obtain rfl := Nat.eq_of_beq_eq_true e
                exact kc22
              · obtain ⟨e, rfl⟩ := bif_one h
                obtain rfl := Nat.eq_of_beq_eq_true e
                exact kc23
            · rcases bif_or h with h | h
              · obtain ⟨e, rfl⟩ := bif_one h
                obtain rfl := Nat.eq_of_beq_eq_true e
                exact kc38
              · obtain ⟨e, rfl⟩ := bif_one h
                obtain rfl := Nat.eq_of_beq_eq_true e
                exact kc39
      · rcases bif_or h with h | h
        · rcases bif_or h with h | h
          · rcases bif_or h with h | h
            · obtain ⟨e, rfl⟩ := bif_one h
              obtain rfl := Nat.eq_of_beq_eq_true e
              exact kc40
            · rcases bif_or h with h | h
              · obtain ⟨e, rfl⟩ := bif_one h
                obtain rfl := Nat.eq_of_beq_eq_true e
                exact kc42
              · obtain ⟨e, rfl⟩ := bif_one h
                obtain rfl := Nat.eq_of_beq_eq_true e
                exact kc43
          · rcases bif_or h with h | h
            · obtain ⟨e, rfl⟩ := bif_one h
              obtain rfl := Nat.eq_of_beq_eq_true e
              exact kc44
            · rcases bif_or h with h | h
              · obtain ⟨e, rfl⟩ := bif_one h
                obtain rfl := Nat.eq_of_beq_eq_true e
                exact kc45
              · obtain ⟨e, rfl⟩ := bif_one h
                obtain rfl := Nat.eq_of_beq_eq_true e
                exact kc46
        · rcases bif_or h with h | h
          · rcases bif_or h with h | h
            · obtain ⟨e, rfl⟩ := bif_one h
              obtain rfl := Nat.eq_of_beq_eq_true e
              exact kc47
            · rcases bif_or h with h | h
              · obtain ⟨e, rfl⟩ := bif_one h
                obtain rfl := Nat.eq_of_beq_eq_true e
                exact kc48
              · obtain ⟨e, rfl⟩ := bif_one h
                obtain rfl := Nat.eq_of_beq_eq_true e
                exact kc49
          · rcases bif_or h with h | h
            · rcases bif_or h with h | h
              · obtain ⟨e, rfl⟩ := bif_one h
                obtain rfl := Nat.eq_of_beq_eq_true e
                exact kc50
              · obtain ⟨e, rfl⟩ := bif_one h
                obtain rfl := Nat.eq_of_beq_eq_true e
                exact kc51
            · rcases bif_or h with h | h
              · obtain ⟨e, rfl⟩ := bif_one h
                obtain rfl := Nat.eq_of_beq_eq_true e
                exact kc52
              · obtain ⟨e, rfl⟩ := bif_one h
                obtain rfl := Nat.eq_of_beq_eq_true e
                exact kc53
    · rcases bif_or h with h | h
      · rcases bif_or h with h | h
        · rcases bif_or h with h | h
          · rcases bif_or h with h | h
            · obtain ⟨e, rfl⟩ := bif_one h
              obtain rfl := Nat.eq_of_beq_eq_true e
              exact kc54
            · rcases bif_or h with h | h
              · obtain ⟨e, rfl⟩ := bif_one h
                obtain rfl := Nat.eq_of_beq_eq_true e
                exact kc56
              · obtain ⟨e, rfl⟩ := bif_one h
                obtain rfl := Nat.eq_of_beq_eq_true e
                exact kc60
          · rcases bif_or h with h | h
            · obtain ⟨e, rfl⟩ := bif_one h
              obtain rfl := Nat.eq_of_beq_eq_true e
              exact kc61
            · rcases bif_or h with h | h
              · obtain ⟨e, rfl⟩ := bif_one h
                obtain rfl := Nat.eq_of_beq_eq_true e
                exact kc62
              · obtain ⟨e, rfl⟩ := bif_one h
                obtain rfl := Nat.eq_of_beq_eq_true e
                exact kc63
        · rcases bif_or h with h | h
          · rcases bif_or h with h | h
            · obtain ⟨e, rfl⟩ := bif_one h
              obtain rfl := Nat.eq_of_beq_eq_true e
              exact kc67
            · rcases bif_or h with h | h
              · obtain ⟨e, rfl⟩ := bif_one h
                obtain rfl := Nat.eq_of_beq_eq_true e
                exact kc68
              · obtain ⟨e, rfl⟩ := bif_one h
                obtain rfl := Nat.eq_of_beq_eq_true e
                exact kc69
          · rcases bif_or h with h | h
            · rcases bif_or h with h | h
              · obtain ⟨e, rfl⟩ := bif_one h
                obtain rfl := Nat.eq_of_beq_eq_true e
                exact kc70
              · obtain ⟨e, rfl⟩ := bif_one h
                obtain rfl := Nat.eq_of_beq_eq_true e
                exact kc71
            · rcases bif_or h with h | h
              · obtain ⟨e, rfl⟩ := bif_one h
                obtain rfl := Nat.eq_of_beq_eq_true e
                exact kc72
              · obtain ⟨e, rfl⟩ := bif_one h
                obtain rfl := Nat.eq_of_beq_eq_true e
                exact kc73
      · rcases bif_or h with h | h
        · rcases bif_or h with h | h
          · rcases bif_or h with h | h
            · obtain ⟨e, rfl⟩ := bif_one h
              obtain rfl := Nat.eq_of_beq_eq_true e
              exact kc74
            · rcases bif_or h with h | h
              · obtain ⟨e, rfl⟩ := bif_one h
                obtain rfl := Nat.eq_of_beq_eq_true e
                exact kc75
              · obtain ⟨e, rfl⟩ := bif_one h
                obtain rfl := Nat.eq_of_beq_eq_true e
                exact kc76
          · rcases bif_or h with h | h
            · rcases bif_or h with h | h
              · obtain ⟨e, rfl⟩ := bif_one h
                obtain rfl := Nat.eq_of_beq_eq_true e
                exact kc77
              · obtain ⟨e, rfl⟩ := bif_one h
                obtain rfl := Nat.eq_of_beq_eq_true e
                exact kc78
            · rcases bif_or h with h | h
              · obtain ⟨e, rfl⟩ := bif_one h
                obtain rfl := Nat.eq_of_beq_eq_true e
                exact kc79
              · obtain ⟨e, rfl⟩ := bif_one h
                obtain rfl := Nat.eq_of_beq_eq_true e
                exact kc80
        · rcases bif_or h with h | h
          · rcases bif_or h with h | h
            · obtain ⟨e, rfl⟩ := bif_one h
              obtain rfl := Nat.eq_of_beq_eq_true e
              exact kc98
            · rcases bif_or h with h | h
              · obtain ⟨e, rfl⟩ := bif_one h
                obtain rfl := Nat.eq_of_beq_eq_true e
                exact kc99
              · obtain ⟨e, rfl⟩ := bif_one h
                obtain rfl := Nat.eq_of_beq_eq_true e
                exact kc100
          · rcases bif_or h with h | h
            · rcases bif_or h with h | h
              · obtain ⟨e, rfl⟩ := bif_one h
                obtain rfl := Nat.eq_of_beq_eq_true e
                exact kc101
              · obtain ⟨e, rfl⟩ := bif_one h
                obtain rfl := Nat.eq_of_beq_eq_true e
                exact kc103
            · rcases bif_or h with h | h
              · obtain ⟨e, rfl⟩ := bif_one h
                obtain rfl := Nat.eq_of_beq_eq_true e
                exact kc104
              · obtain ⟨e, rfl⟩ := bif_one h
                obtain rfl := Nat.eq_of_beq_eq_true e
                exact kc105
  · rcases bif_or h with h | h
    · rcases bif_or h with h | h
      · rcases bif_or h with h | h
        · rcases bif_or h with h | h
          · rcases bif_or h with h | h
            · obtain ⟨e, rfl⟩ := bif_one h
              obtain rfl := Nat.eq_of_beq_eq_true e
              exact kc106
            · rcases bif_or h with h | h
              · obtain ⟨e, rfl⟩ := bif_one h
                obtain rfl := Nat.eq_of_beq_eq_true e
                exact kc107
              · obtain ⟨e, rfl⟩ := bif_one h
                obtain rfl := Nat.eq_of_beq_eq_true e
                exact kc108
          · rcases bif_or h with h | h
            · obtain ⟨e, rfl⟩ := bif_one h
              obtain rfl := Nat.eq_of_beq_eq_true e
              exact kc109
            · rcases bif_or h with h | h
              · obtain ⟨e, rfl⟩ := bif_one h
                obtain rfl := Nat.eq_of_beq_eq_true e
                exact kc110
              · obtain ⟨e, rfl⟩ := bif_one h
                obtain rfl := Nat.eq_of_beq_eq_true e
                exact kc111
        · rcases bif_or h with h | h
          · rcases bif_or h with h | h
            · obtain ⟨e, rfl⟩ := bif_one h
              obtain rfl := Nat.eq_of_beq_eq_true e
              exact kc112
            · rcases bif_or h with h | h
              · obtain ⟨e, rfl⟩ := bif_one h
                obtain rfl := Nat.eq_of_beq_eq_true e
                exact kc113
              · obtain ⟨e, rfl⟩ := bif_one h
                obtain rfl := Nat.eq_of_beq_eq_true e
                exact kc114
          · rcases bif_or h with h | h
            · rcases bif_or h with h | h
              · obtain ⟨e, rfl⟩ := bif_one h
                obtain rfl := Nat.eq_of_beq_eq_true e
                exact kc116
              · obtain ⟨e, rfl⟩ := bif_one h
                obtain rfl := Nat.eq_of_beq_eq_true e
                exact kc117
            · rcases bif_or h with h | h
              · obtain ⟨e, rfl⟩ := bif_one h
                obtain rfl := Nat.eq_of_beq_eq_true e
                exact kc122
              · obtain ⟨e, rfl⟩ := bif_one h
                obtain rfl := Nat.eq_of_beq_eq_true e
                exact kc123
      · rcases bif_or h with h | h
        · rcases bif_or h with h | h
          · rcases bif_or h with h | h
            · obtain ⟨e, rfl⟩ := bif_one h
              obtain rfl := Nat.eq_of_beq_eq_true e
              exact kc124
            · rcases bif_or h with h | h
              · obtain ⟨e, rfl⟩ := bif_one h
                obtain rfl := Nat.eq_of_beq_eq_true e
                exact kc125
              · obtain ⟨e, rfl⟩ := bif_one h
                obtain rfl := Nat.eq_of_beq_eq_true e
                exact kc126
          · rcases bif_or h with h | h
            · obtain ⟨e, rfl⟩ := bif_one h
              obtain rfl := Nat.eq_of_beq_eq_true e
              exact kc138
            · rcases bif_or h with h | h
              · obtain ⟨e, rfl⟩ := bif_one h
                obtain rfl := Nat.eq_of_beq_eq_true e
                exact kc139
              · obtain ⟨e, rfl⟩ := bif_one h
                obtain rfl := Nat.eq_of_beq_eq_true e
                exact kc140
        · rcases bif_or h with h | h
          · rcases bif_or h with h | h
            · obtain ⟨e, rfl⟩ := bif_one h
              obtain rfl := Nat.eq_of_beq_eq_true e
              exact kc141
            · rcases bif_or h with h | h
              · obtain ⟨e, rfl⟩ := bif_one h
                obtain rfl := Nat.eq_of_beq_eq_true e
                exact kc142
              · obtain ⟨e, rfl⟩ := bif_one h
                obtain rfl := Nat.eq_of_beq_eq_true e
                exact kc143
          · rcases bif_or h with h | h
            · rcases bif_or h with h | h
              · obtain ⟨e, rfl⟩ := bif_one h
                obtain rfl := Nat.eq_of_beq_eq_true e
                exact kc144
              · obtain ⟨e, rfl⟩ := bif_one h
                obtain rfl := Nat.eq_of_beq_eq_true e
                exact kc145
            · rcases bif_or h with h | h
              · obtain ⟨e, rfl⟩ := bif_one h
                obtain rfl := Nat.eq_of_beq_eq_true e
                exact kc146
              · obtain ⟨e, rfl⟩ := bif_one h
                obtain rfl := Nat.eq_of_beq_eq_true e
                exact kc147
    · rcases bif_or h with h | h
      · rcases bif_or h with h | h
        · rcases bif_or h with h | h
          · rcases bif_or h with h | h
            · obtain ⟨e, rfl⟩ := bif_one h
              obtain rfl := Nat.eq_of_beq_eq_true e
              exact kc148
            · rcases bif_or h with h | h
              · obtain ⟨e, rfl⟩ := bif_one h
                obtain rfl := Nat.eq_of_beq_eq_true e
                exact kc149
              · obtain ⟨e, rfl⟩ := bif_one h
                obtain rfl := Nat.eq_of_beq_eq_true e
                exact kc168
          · rcases bif_or h with h | h
            · obtain ⟨e, rfl⟩ := bif_one h
              obtain rfl := Nat.eq_of_beq_eq_true e
              exact kc169
            · rcases bif_or h with h | h
              · obtain ⟨e, rfl⟩ := bif_one h
                obtain rfl := Nat.eq_of_beq_eq_true e
                exact kc170
              · obtain ⟨e, rfl⟩ := bif_one h
                obtain rfl := Nat.eq_of_beq_eq_true e
                exact kc171
        · rcases bif_or h with h | h
          · rcases bif_or h with h | h
            · obtain ⟨e, rfl⟩ := bif_one h
              obtain rfl := Nat.eq_of_beq_eq_true e
              exact kc172
            · rcases bif_or h with h | h
              · obtain ⟨e, rfl⟩ := bif_one h
                obtain rfl := Nat.eq_of_beq_eq_true e
                exact kc173
              · obtain ⟨e, rfl⟩ := bif_one h
                obtain rfl := Nat.eq_of_beq_eq_true e
                exact kc174
          · rcases bif_or h with h | h
            · rcases bif_or h with h | h
              · obtain ⟨e, rfl⟩ := bif_one h
                obtain rfl := Nat.eq_of_beq_eq_true e
                exact kc192
              · obtain ⟨e, rfl⟩ := bif_one h
                obtain rfl := Nat.eq_of_beq_eq_true e
                exact kc193
            · rcases bif_or h with h | h
              · obtain ⟨e, rfl⟩ := bif_one h
                obtain rfl := Nat.eq_of_beq_eq_true e
                exact kc194
              · obtain ⟨e, rfl⟩ := bif_one h
                obtain rfl := Nat.eq_of_beq_eq_true e
                exact kc195
      · rcases bif_or h with h | h
        · rcases bif_or h with h | h
          · rcases bif_or h with h | h
            · obtain ⟨e, rfl⟩ := bif_one h
              obtain rfl := Nat.eq_of_beq_eq_true e
              exact kc196
            · rcases bif_or h with h | h
              · obtain ⟨e, rfl⟩ := bif_one h
                obtain rfl := Nat.eq_of_beq_eq_true e
                exact kc197
              · obtain ⟨e, rfl⟩ := bif_one h
                obtain rfl := Nat.eq_of_beq_eq_true e
                exact kc198
          · rcases bif_or h with h | h
            · rcases bif_or h with h | h
              · obtain ⟨e, rfl⟩ := bif_one h
                obtain rfl := Nat.eq_of_beq_eq_true e
                exact kc199
              · obtain ⟨e, rfl⟩ := bif_one h
                obtain rfl := Nat.eq_of_beq_eq_true e
                exact kc200
            · rcases bif_or h with h | h
              · obtain ⟨e, rfl⟩ := bif_one h
                obtain rfl := Nat.eq_of_beq_eq_true e
                exact kc201
              · obtain ⟨e, rfl⟩ := bif_one h
                obtain rfl := Nat.eq_of_beq_eq_true e
                exact kc202
        · rcases bif_or h with h | h
          · rcases bif_or h with h | h
            · obtain ⟨e, rfl⟩ := bif_one h
              obtain rfl := Nat.eq_of_beq_eq_true e
              exact kc203
            · rcases bif_or h with h | h
              · obtain ⟨e, rfl⟩ := bif_one h
                obtain rfl := Nat.eq_of_beq_eq_true e
                exact kc213
              · obtain ⟨e, rfl⟩ := bif_one h
                obtain rfl := Nat.eq_of_beq_eq_true e
                exact kc214
          · rcases bif_or h with h | h
            · rcases bif_or h with h | h
              · obtain ⟨e, rfl⟩ := bif_one h
                obtain rfl := Nat.eq_of_beq_eq_true e
                exact kc215
              · obtain ⟨e, rfl⟩ := bif_one h
                obtain rfl := Nat.eq_of_beq_eq_true e
                exact kc216
            · rcases bif_or h with h | h
              · obtain ⟨e, rfl⟩ := bif_one h
                obtain rfl := Nat.eq_of_beq_eq_true e
                exact kc217
              · obtain ⟨e, rfl⟩ := bif_one h
                obtain rfl := Nat.eq_of_beq_eq_true e
                exact kc221
theorem own : ownKnob Tryz.prog.godebug = none := by kernel_rfl
theorem laidOk : laidOutB Tryz.prog = true := by kernel_rfl
theorem gBru : Tryz.prog.globalNamed "math/bits.deBruijn64tab" = some 1 := by kernel_rfl
theorem tBru : (Tryz.prog.globals[1]?).map (·.type) = some 247 := by kernel_rfl
theorem sizeBru : Tryz.prog.cellsOf 247 = 64 := by kernel_rfl
theorem size3 : Tryz.prog.cellsOf 3 = 1 := by kernel_rfl
theorem size4 : Tryz.prog.cellsOf 4 = 1 := by kernel_rfl
theorem size5 : Tryz.prog.cellsOf 5 = 1 := by kernel_rfl
abbrev laid1 {H : Type} : List (String × DataW H) := [("math/bits.deBruijn64tab", Rows.laid_math_bits_deBruijn64tab)]
theorem door_met (os : Os) (args : Array Value) : laidMetH Tryz.prog laid1 ((World.doorLaid Tryz.prog 400 os).forCall (fun _ _ => 0) ⟨#[], args, []⟩).memory :=
  laidMetH_of_parts3 (fuel := 8) (laidMet_of_run' 8 (by kernel_rfl) (by kernel_rfl)) (by kernel_rfl) (by kernel_rfl)
theorem gl_pure : ∀ g cs, pg.gl g = some cs → D.pureL cs = true := by
  intro g cs h
  obtain ⟨_, rfl⟩ := bif_one h
  rfl
theorem nums_read {H : Type} {enc : TypeId × Value → H} {P : Program} {w : World} {base : Nat} {spare : Nat → Bool} {held : Bool} {e : TypeId} {m : Nat} {k : IntKind} (he : P.underlying e = some (.int k)) :
    ∀ (cs : List Value) (xs : List (DataW H × List MemPlace)), cs.length = xs.length → (∀ i, i < xs.length → DataW.trod enc P w base spare held m e ((cs.drop i).take 1) = xs[i]?) → ∃ L : List Int, cs = L.map (.int k) ∧ xs.map (·.1) = L.map fun n => .lit (.int k n)
  | [], [], _, _ => ⟨[], rfl, rfl⟩
  | c :: cs, x :: xs, hl, h => by
    obtain ⟨L, h1, h2⟩ := nums_read he cs xs (by simpa using hl) fun i hi => by
      have := h (i + 1) (by simp; omega)
      simpa using this
    have h0 := h 0 (by simp)
    simp only [List.drop_zero, List.take_succ_cons, List.take_zero, List.getElem?_cons_zero] at h0
    obtain ⟨n, j1, j2, _⟩ := DataW.trod_int he h0
    simp only [List.cons.injEq, and_true] at j1
    subst j1
    exact ⟨n :: L, by simp [h1], by simp [h2, j2]⟩
theorem tabs_read {H : Type} {enc : TypeId × Value → H} {P : Program} {w : World} {base : Nat} {spare : Nat → Bool} {held : Bool} {t e : TypeId} {n fuel : Nat} {k : IntKind} {cs : List Value} {x : DataW H × List MemPlace} (ht : P.underlying t = some (.array n e)) (hC : P.cellsOf t = n) (he : P.underlying e = some (.int k)) (c1 : P.cellsOf e = 1)
    (h : DataW.trod enc P w base spare held fuel t cs = some x) : ∃ L : List Int, cs = L.map (.int k) ∧ x.1 = .agg (L.map fun n => .lit (.int k n)) := by
  obtain ⟨xs, m, rfl, rfl, hl, hn, hf⟩ := DataW.trod_array ht h
  rw [hC] at hl
  obtain ⟨L, h1, h2⟩ := nums_read (m := m) (enc := enc) (w := w) (base := base) (spare := spare) (held := held) he cs xs (by omega) fun i hi => by
    have := hf i (by omega)
    rw [c1, Nat.mul_one] at this; exact this
  exact ⟨L, h1, by rw [h2]⟩
theorem lits_inj {H : Type} {k : IntKind} : ∀ {L M : List Int}, (L.map fun n => (DataW.lit (.int k n) : DataW H)) = (M.map fun n => .lit (.int k n)) → L = M
  | [], [], _ => rfl
  | a :: L, b :: M, h => by
    simp only [List.map_cons, List.cons.injEq, DataW.lit.injEq, Lit.int.injEq, true_and] at h
    rw [h.1, lits_inj h.2]
theorem words_in {W : World} (h : laidMetH Tryz.prog laid1 W) : ∀ g cs, pg.gl g = some cs → Den (ctxOf W) (.pointer (some ⟨g, 0, none⟩)) (.eref cs) := by
  intro g cs hg
  obtain ⟨h0, rfl⟩ := bif_one hg
  obtain rfl := Nat.eq_of_beq_eq_true h0
  rw [MakeChecks.laidMetH_plain _ _ _ (by kernel_rfl)] at h
  obtain ⟨ps, ⟨g0, t0, cs0, f0, p0, q0, hg0, ht0, hv0, hd0, _, _⟩, _, _⟩ := h
  obtain rfl := Option.some.inj (gBru.symm.trans hg0)
  obtain rfl := Option.some.inj (tBru.symm.trans ht0)
  obtain ⟨L, j1, j2⟩ := tabs_read Tryz.underlying247 sizeBru Tryz.underlying5 size5 hd0
  have hL : L = bruN.map fun (n : Nat) => (n : Int) := by
    change DataW.agg ((bruN.map fun (n : Nat) => (n : Int)).map fun n => .lit (.int .u8 n)) = _ at j2
    exact (lits_inj (DataW.agg.inj j2)).symm
  subst hL
  refine .eref 1 0 ((bruN.map fun (n : Nat) => (n : Int)).map (.int .u8)) _ (fun j v h => ctxOf_cell ?_) ?_
  · rw [Nat.zero_add, World.var?_cell hg0 hv0 j, ← Array.getElem?_toList, j1]
    exact h
  · have e : bruD = ((bruN.map fun (n : Nat) => (n : Int)).map (.int .u8)).map D.val := by unfold bruD; rw [List.map_map, List.map_map]; rfl
    rw [e]
    exact vals_den (by decide)
end Go.Proofs.YtgbkdjlekfjkfaaGreatDoor
