/- The table of small code is the program's own; what memory holds when a law is called. -/
import Derived.Test.YtlkpikdfbodhoaaDoorPg
import Derived.Test.YtlkpikdfbodhoaaDoorTie
import Derived.Test.YtlkpikdfbodhoaaDoorEmW
import Derived.ProofKit
import Derived.LaidMore
import Derived.OpenShut
import Derived.Stop.Joined
namespace Go.Proofs.YtlkpikdfbodhoaaDoor
open Go Go.Em Go.RowKit Go.ChangeShapes
set_option maxRecDepth 100000
theorem pg_ok : PgOk Tryd.prog pg := by
  intro f fc h
  change codeAt f = some fc at h
  unfold codeAt at h
  rcases bif_or h with h | h
  · rcases bif_or h with h | h
    · rcases bif_or h with h | h
      · rcases bif_or h with h | h
        · rcases bif_or h with h | h
          · rcases bif_or h with h | h
            · obtain ⟨e, rfl⟩ := bif_one h
              obtain rfl := Nat.eq_of_beq_eq_true e
              exact kc9
            · rcases bif_or h with h | h
              · obtain ⟨e, rfl⟩ := bif_one h
                obtain rfl := Nat.eq_of_beq_eq_true e
                exact kc10
              · obtain ⟨e, rfl⟩ := bif_one h
                obtain rfl := Nat.eq_of_beq_eq_true e
                exact kc11
          · rcases bif_or h with h | h
            · obtain ⟨e, rfl⟩ := bif_one h
              obtain rfl := Nat.eq_of_beq_eq_true e
              exact kc12
            · rcases bif_or h with h | h
              · obtain ⟨e, rfl⟩ := bif_one h
                obtain rfl := Nat.eq_of_beq_eq_true e
                exact kc15
              · obtain ⟨e, rfl⟩ := bif_one h
                obtain rfl := Nat.eq_of_beq_eq_true e
                exact kc18
        · rcases bif_or h with h | h
          · rcases bif_or h with h | h
            · obtain ⟨e, rfl⟩ := bif_one h
              obtain rfl := Nat.eq_of_beq_eq_true e
              exact kc23
            · rcases bif_or h with h | h
              · obtain ⟨e, rfl⟩ := bif_one h
                obtain rfl := Nat.eq_of_beq_eq_true e
                exact kc25
              · obtain ⟨e, rfl⟩ := bif_one h
                obtain rfl := Nat.eq_of_beq_eq_true e
                exact kc26
          · rcases bif_or h with h | h
            · obtain ⟨e, rfl⟩ := bif_one h
              obtain rfl := Nat.eq_of_beq_eq_true e
              exact kc27
            · rcases bif_or h with h | h
              · obtain ⟨e, rfl⟩ := bif_one h
                obtain rfl := Nat.eq_of_beq_eq_true e
                exact kc28
              · obtain ⟨e, rfl⟩ := bif_one h
                obtain rfl := Nat.eq_of_beq_eq_true e
                exact kc29
      · rcases bif_or h with h | h
        · rcases bif_or h with h | h
          · rcases bif_or h with h | h
            · obtain ⟨e, rfl⟩ := bif_one h
              obtain rfl := Nat.eq_of_beq_eq_true e
              exact kc30
            · rcases bif_or h with h | h
              · obtain ⟨e, rfl⟩ := bif_one h
                obtain rfl := Nat.eq_of_beq_eq_true e
                exact kc32
              · obtain ⟨e, rfl⟩ := bif_one h
                obtain rfl := Nat.eq_of_beq_eq_true e
                exact kc37
          · rcases bif_or h with h | h
            · obtain ⟨e, rfl⟩ := bif_one h
              obtain rfl := Nat.eq_of_beq_eq_true e
              exact kc40
            · rcases bif_or h with h | h
              · obtain ⟨e, rfl⟩ := bif_one h
                obtain rfl := Nat.eq_of_beq_eq_true e
                exact kc41
              · obtain ⟨e, rfl⟩ := bif_one h
                obtain rfl := Nat.eq_of_beq_eq_true e
                exact kc42
        · rcases bif_or h with h | h
          · rcases bif_or h with h | h
            · obtain ⟨e, rfl⟩ := bif_one h
              obtain rfl := Nat.eq_of_beq_eq_true e
              exact kc43
            · rcases bif_or h with h | h
              · obtain ⟨e, rfl⟩ := bif_one h
                obtain rfl := Nat.eq_of_beq_eq_true e
                exact kc44
              · obtain ⟨e, rfl⟩ := bif_one h
                obtain rfl := Nat.eq_of_beq_eq_true e
                exact kc45
          · rcases bif_or h with h | h
            · obtain ⟨e, rfl⟩ := bif_one h
              obtain rfl := Nat.eq_of_beq_eq_true e
              exact kc46
            · rcases bif_or h with h | h
              · obtain ⟨e, rfl⟩ := bif_one h
                obtain rfl := Nat.eq_of_beq_eq_true e
                exact kc47
              · obtain ⟨e, rfl⟩ := bif_one h
                obtain rfl := Nat.eq_of_beq_eq_true e
                exact kc48
    · rcases bif_or h with h | h
      · rcases bif_or h with h | h
        · rcases bif_or h with h | h
          · rcases bif_or h with h | h
            · obtain ⟨e, rfl⟩ := bif_one h
              obtain rfl := Nat.eq_of_beq_eq_true e
              exact kc49
            · rcases bif_or h with h | h
              · obtain ⟨e, rfl⟩ := bif_one h
                obtain rfl := Nat.eq_of_beq_eq_true e
                exact kc50
              · obtain ⟨e, rfl⟩ := bif_one h
                obtain rfl := Nat.eq_of_beq_eq_true e
                exact kc51
          · rcases bif_or h with h | h
            · obtain ⟨e, rfl⟩ := bif_one h
              obtain rfl := Nat.eq_of_beq_eq_true e
              exact kc52
            · rcases bif_or h with h | h
              · obtain ⟨e, rfl⟩ := bif_one h
                obtain rfl := Nat.eq_of_beq_eq_true e
                exact kc53
              · obtain ⟨e, rfl⟩ := bif_one h
                obtain rfl := Nat.eq_of_beq_eq_true e
                exact kc54
        · rcases bif_or h with h | h
          · rcases bif_or h with h | h
            · obtain ⟨e, rfl⟩ := bif_one h
              obtain rfl := Nat.eq_of_beq_eq_true e
              exact kc56
            · rcases bif_or h with h | h
              · obtain ⟨e, rfl⟩ := bif_one h
                obtain rfl := Nat.eq_of_beq_eq_true e
                exact kc60
              · obtain ⟨e, rfl⟩ := bif_one h
                obtain rfl := Nat.eq_of_beq_eq_true e
                exact kc61
          · rcases bif_or h with h | h
            · obtain ⟨e, rfl⟩ := bif_one h
              obtain rfl := Nat.eq_of_beq_eq_true e
              exact kc62
            · rcases bif_or h with h | h
              · obtain ⟨e, rfl⟩ := bif_one h
                obtain rfl := Nat.eq_of_beq_eq_true e
                exact kc65
              · obtain ⟨e, rfl⟩ := bif_one h
                obtain rfl := Nat.eq_of_beq_eq_true e
                exact kc66
      · rcases bif_or h with h | h
        · rcases bif_or h with h | h
          · rcases bif_or h with h | h
            · obtain ⟨e, rfl⟩ := bif_one h
              obtain rfl := Nat.eq_of_beq_eq_true e
              exact kc67
            · rcases bif_or h with h | h
              · obtain ⟨e, rfl⟩ := bif_one h
                obtain rfl := Nat.eq_of_beq_eq_true e
                exact kc70
              · obtain ⟨e, rfl⟩ := bif_one h
                obtain rfl := Nat.eq_of_beq_eq_true e
                exact kc71
          · rcases bif_or h with h | h
            · obtain ⟨e, rfl⟩ := bif_one h
              obtain rfl := Nat.eq_of_beq_eq_true e
              exact kc72
            · rcases bif_or h with h | h
              · obtain ⟨e, rfl⟩ := bif_one h
                obtain rfl := Nat.eq_of_beq_eq_true e
                exact kc75
              · obtain ⟨e, rfl⟩ := bif_one h
                obtain rfl := Nat.eq_of_beq_eq_true e
                exact kc76
        · rcases bif_or h with h | h
          · rcases bif_or h with h | h
            · obtain ⟨e, rfl⟩ := bif_one h
              obtain rfl := Nat.eq_of_beq_eq_true e
              exact kc77
            · rcases bif_or h with h | h
              · obtain ⟨e, rfl⟩ := bif_one h
                obtain rfl := Nat.eq_of_beq_eq_true e
                exact kc78
              · obtain ⟨e, rfl⟩ := bif_one h
                obtain rfl := Nat.eq_of_beq_eq_true e
                exact kc79
          · rcases bif_or h with h | h
            · rcases bif_or h with h | h
              · obtain ⟨e, rfl⟩ := bif_one h
                obtain rfl := Nat.eq_of_beq_eq_true e
                exact kc80
              · obtain ⟨e, rfl⟩ := bif_one h
                obtain rfl := Nat.eq_of_beq_eq_true e
                exact kc85
            · rcases bif_or h with h | h
              · obtain ⟨e, rfl⟩ := bif_one h
                obtain rfl := Nat.eq_of_beq_eq_true e
                exact kc86
              · obtain ⟨e, rfl⟩ := bif_one h
                obtain rfl := Nat.eq_of_beq_eq_true e
                exact kc87
  · rcases bif_or h with h | h
    · rcases bif_or h with h | h
      · rcases bif_or h with h | h
        · rcases bif_or h with h | h
          · rcases bif_or h with h | h
            · obtain ⟨e, rfl⟩ := bif_one h
              obtain rfl := Nat.eq_of_beq_eq_true e
              exact kc88
            · rcases bif_or h with h | h
              · obtain ⟨e, rfl⟩ := bif_one h
                obtain rfl := Nat.eq_of_beq_eq_true e
                exact kc89
              · obtain ⟨e, rfl⟩ := bif_one h
                obtain rfl := Nat.eq_of_beq_eq_true e
                exact kc90
          · rcases bif_or h with h | h
            · obtain ⟨e, rfl⟩ := bif_one h
              obtain rfl := Nat.eq_of_beq_eq_true e
              exact kc91
            · rcases bif_or h with h | h
              · obtain ⟨e, rfl⟩ := bif_one h
                obtain rfl := Nat.eq_of_beq_eq_true e
                exact kc92
              · obtain ⟨e, rfl⟩ := bif_one h
                obtain rfl := Nat.eq_of_beq_eq_true e
                exact kc93
        · rcases bif_or h with h | h
          · rcases bif_or h with h | h
            · obtain ⟨e, rfl⟩ := bif_one h
              obtain rfl := Nat.eq_of_beq_eq_true e
              exact kc96
            · rcases bif_or h with h | h
              · obtain ⟨e, rfl⟩ := bif_one h
                obtain rfl := Nat.eq_of_beq_eq_true e
                exact kc98
              · obtain ⟨e, rfl⟩ := bif_one h
                obtain rfl := Nat.eq_of_beq_eq_true e
                exact kc101
          · rcases bif_or h with h | h
            · obtain ⟨e, rfl⟩ := bif_one h
              obtain rfl := Nat.eq_of_beq_eq_true e
              exact kc102
            · rcases bif_or h with h | h
              · obtain ⟨e, rfl⟩ := bif_one h
                obtain rfl := Nat.eq_of_beq_eq_true e
                exact kc103
              · obtain ⟨e, rfl⟩ := bif_one h
                obtain rfl := Nat.eq_of_beq_eq_true e
                exact kc104
      · rcases bif_or h with h | h
        · rcases bif_or h with h | h
          · rcases bif_or h with h | h
            · obtain ⟨e, rfl⟩ := bif_one h
              obtain rfl := Nat.eq_of_beq_eq_true e
              exact kc105
            · rcases bif_or h with h | h
              · obtain ⟨e, rfl⟩ := bif_one h
                obtain rfl := Nat.eq_of_beq_eq_true e
                exact kc106
              · obtain ⟨e, rfl⟩ := bif_one h
                obtain rfl := Nat.eq_of_beq_eq_true e
                exact kc107
          · rcases bif_or h with h | h
            · obtain ⟨e, rfl⟩ := bif_one h
              obtain rfl := Nat.eq_of_beq_eq_true e
              exact kc108
            · rcases bif_or h with h | h
              · obtain ⟨e, rfl⟩ := bif_one h
                obtain rfl := Nat.eq_of_beq_eq_true e
                exact kc110
              · obtain ⟨e, rfl⟩ := bif_one h
                obtain rfl := Nat.eq_of_beq_eq_true e
                exact kc111
        · rcases bif_or h with h | h
          · rcases bif_or h with h | h
            · obtain ⟨e, rfl⟩ := bif_one h
              obtain rfl := Nat.eq_of_beq_eq_true e
              exact kc112
            · rcases bif_or h with h | h
              · obtain ⟨e, rfl⟩ := bif_one h
                obtain rfl := Nat.eq_of_beq_eq_true e
                exact kc113
              · obtain ⟨e, rfl⟩ := bif_one h
                obtain rfl := Nat.eq_of_beq_eq_true e
                exact kc114
          · rcases bif_or h with h | h
            · obtain ⟨e, rfl⟩ := bif_one h
              obtain rfl := Nat.eq_of_beq_eq_true e
              exact kc115
            · rcases bif_or h with h | h
              · obtain ⟨e, rfl⟩ := bif_one h
                obtain rfl := Nat.eq_of_beq_eq_true e
                exact kc117
              · obtain ⟨e, rfl⟩ := bif_one h
                obtain rfl := Nat.eq_of_beq_eq_true e
                exact kc118
    · rcases bif_or h with h | h
      · rcases bif_or h with h | h
        · rcases bif_or h with h | h
          · rcases bif_or h with h | h
            · obtain ⟨e, rfl⟩ := bif_one h
              obtain rfl := Nat.eq_of_beq_eq_true e
              exact kc119
            · rcases bif_or h with h | h
              · obtain ⟨e, rfl⟩ := bif_one h
                obtain rfl := Nat.eq_of_beq_eq_true e
                exact kc120
              · obtain ⟨e, rfl⟩ := bif_one h
                obtain rfl := Nat.eq_of_beq_eq_true e
                exact kc121
          · rcases bif_or h with h | h
            · obtain ⟨e, rfl⟩ := bif_one h
              obtain rfl := Nat.eq_of_beq_eq_true e
              exact kc122
            · rcases bif_or h with h | h
              · obtain ⟨e, rfl⟩ := bif_one h
                obtain rfl := Nat.eq_of_beq_eq_true e
                exact kc123
              · obtain ⟨e, rfl⟩ := bif_one h
                obtain rfl := Nat.eq_of_beq_eq_true e
                exact kc124
        · rcases bif_or h with h | h
          · rcases bif_or h with h | h
            · obtain ⟨e, rfl⟩ := bif_one h
              obtain rfl := Nat.eq_of_beq_eq_true e
              exact kc125
            · rcases bif_or h with h | h
              · obtain ⟨e, rfl⟩ := bif_one h
                obtain rfl := Nat.eq_of_beq_eq_true e
                exact kc126
              · obtain ⟨e, rfl⟩ := bif_one h
                obtain rfl := Nat.eq_of_beq_eq_true e
                exact kc127
          · rcases bif_or h with h | h
            · obtain ⟨e, rfl⟩ := bif_one h
              obtain rfl := Nat.eq_of_beq_eq_true e
              exact kc128
            · rcases bif_or h with h | h
              · obtain ⟨e, rfl⟩ := bif_one h
                obtain rfl := Nat.eq_of_beq_eq_true e
                exact kc129
              · obtain ⟨e, rfl⟩ := bif_one h
                obtain rfl := Nat.eq_of_beq_eq_true e
                exact kc130
      · rcases bif_or h with h | h
        · rcases bif_or h with h | h
          · rcases bif_or h with h | h
            · obtain ⟨e, rfl⟩ := bif_one h
              obtain rfl := Nat.eq_of_beq_eq_true e
              exact kc131
            · rcases bif_or h with h | h
              · obtain ⟨e, rfl⟩ := bif_one h
                obtain rfl := Nat.eq_of_beq_eq_true e
                exact kc132
              · obtain ⟨e, rfl⟩ := bif_one h
                obtain rfl := Nat.eq_of_beq_eq_true e
                exact kc133
          · rcases bif_or h with h | h
            · obtain ⟨e, rfl⟩ := bif_one h
              obtain rfl := Nat.eq_of_beq_eq_true e
              exact kc134
            · rcases bif_or h with h | h
              · obtain ⟨e, rfl⟩ := bif_one h
                obtain rfl := Nat.eq_of_beq_eq_true e
                exact kc135
              · obtain ⟨e, rfl⟩ := bif_one h
                obtain rfl := Nat.eq_of_beq_eq_true e
                exact kc136
        · rcases bif_or h with h | h
          · rcases bif_or h with h | h
            · obtain ⟨e, rfl⟩ := bif_one h
              obtain rfl := Nat.eq_of_beq_eq_true e
              exact kc137
            · rcases bif_or h with h | h
              · obtain ⟨e, rfl⟩ := bif_one h
                obtain rfl := Nat.eq_of_beq_eq_true e
                exact kc138
              · obtain ⟨e, rfl⟩ := bif_one h
                obtain rfl := Nat.eq_of_beq_eq_true e
                exact kc139
          · rcases bif_or h with h | h
            · rcases bif_or h with h | h
              · obtain ⟨e, rfl⟩ := bif_one h
                obtain rfl := Nat.eq_of_beq_eq_true e
                exact kc140
              · obtain ⟨e, rfl⟩ := bif_one h
                obtain rfl := Nat.eq_of_beq_eq_true e
                exact kc141
            · rcases bif_or h with h | h
              · obtain ⟨e, rfl⟩ := bif_one h
                obtain rfl := Nat.eq_of_beq_eq_true e
                exact kc142
              · obtain ⟨e, rfl⟩ := bif_one h
                obtain rfl := Nat.eq_of_beq_eq_true e
                exact kc143
theorem own : ownKnob Tryd.prog.godebug = none := by kernel_rfl
theorem laidOk : laidOutB Tryd.prog = true := by kernel_rfl
theorem gBru : Tryd.prog.globalNamed "math/bits.deBruijn64tab" = some 0 := by kernel_rfl
theorem tBru : (Tryd.prog.globals[0]?).map (·.type) = some 149 := by kernel_rfl
theorem sizeBru : Tryd.prog.cellsOf 149 = 64 := by kernel_rfl
theorem size3 : Tryd.prog.cellsOf 3 = 1 := by kernel_rfl
theorem size4 : Tryd.prog.cellsOf 4 = 1 := by kernel_rfl
theorem size5 : Tryd.prog.cellsOf 5 = 1 := by kernel_rfl
abbrev laid1 {H : Type} : List (String × DataW H) := [("math/bits.deBruijn64tab", Rows.laid_math_bits_deBruijn64tab)]
theorem door_met (os : Os) (args : Array Value) : laidMetH Tryd.prog laid1 ((World.doorLaid Tryd.prog 400 os).forCall (fun _ _ => 0) ⟨#[], args, []⟩).memory :=
  laidMetH_of_parts3 (fuel := 8) (laidMet_of_run' 8 (by kernel_rfl) (by kernel_rfl)) (by kernel_rfl) (by kernel_rfl)
theorem gl_pure : ∀ g cs, pg.gl g = some cs → D.pureL cs = true := by
  intro g cs h
  obtain ⟨_, rfl⟩ := bif_one h
  rfl
theorem nums_read {H : Type} {enc : TypeId × Value → H} {P : Program} {w : World} {base : Nat} {spare : Nat → Bool} {held : Bool} {e : TypeId} {m : Nat} {k : IntKind} (he : P.underlying e = some (.int k)) :
    ∀ (cs : List Value) (xs : List (DataW H × List MemPlace)), cs.length = xs.length → (∀ i, i < xs.length → DataW.trod enc P w base spare held m e ((cs.drop i).take 1) = xs[i]?) → ∃ L : List Int, cs = L.map (.int k) ∧ xs.map (·.1) = L.map fun n => .lit (.int k n)
  | [], [], _, _ => ⟨[], rfl, rfl⟩
  | c :: cs, x :: xs, hl, h => by
    obtain ⟨L, h1, h2⟩ := nums_read he cs xs (by simpa using hl) fun i hi => by
      have := h (i + 1) (by simp; omega)
      simpa using this
    have h0 := h 0 (by simp)
    simp only [List.drop_zero, List.take_succ_cons, List.take_zero, List.getElem?_cons_zero] at h0
    obtain ⟨n, j1, j2, _⟩ := DataW.trod_int he h0
    simp only [List.cons.injEq, and_true] at j1
    subst j1
    exact ⟨n :: L, by simp [h1], by simp [h2, j2]⟩
theorem tabs_read {H : Type} {enc : TypeId × Value → H} {P : Program} {w : World} {base : Nat} {spare : Nat → Bool} {held : Bool} {t e : TypeId} {n fuel : Nat} {k : IntKind} {cs : List Value} {x : DataW H × List MemPlace} (ht : P.underlying t = some (.array n e)) (hC : P.cellsOf t = n) (he : P.underlying e = some (.int k)) (c1 : P.cellsOf e = 1)
    (h : DataW.trod enc P w base spare held fuel t cs = some x) : ∃ L : List Int, cs = L.map (.int k) ∧ x.1 = .agg (L.map fun n => .lit (.int k n)) := by
  obtain ⟨xs, m, rfl, rfl, hl, hn, hf⟩ := DataW.trod_array ht h
  rw [hC] at hl
  obtain ⟨L, h1, h2⟩ := nums_read (m := m) (enc := enc) (w := w) (base := base) (spare := spare) (held := held) he cs xs (by omega) fun i hi => by
    have := hf i (by omega)
    rw [c1, Nat.mul_one] at this; exact this
  exact ⟨L, h1, by rw [h2]⟩
theorem lits_inj {H : Type} {k : IntKind} : ∀ {L M : List Int}, (L.map fun n => (DataW.lit (.int k n) : DataW H)) = (M.map fun n => .lit (.int k n)) → L = M
  | [], [], _ => rfl
  | a :: L, b :: M, h => by
    simp only [List.map_cons, List.cons.injEq, DataW.lit.injEq, Lit.int.injEq, true_and] at h
    rw [h.1, lits_inj h.2]
theorem words_in {W : World} (h : laidMetH Tryd.prog laid1 W) : ∀ g cs, pg.gl g = some cs → Den (ctxOf W) (.pointer (some ⟨g, 0, none⟩)) (.eref cs) := by
  intro g cs hg
  obtain ⟨h0, rfl⟩ := bif_one hg
  obtain rfl := Nat.eq_of_beq_eq_true h0
  rw [MakeChecks.laidMetH_plain _ _ _ (by kernel_rfl)] at h
  obtain ⟨ps, ⟨g0, t0, cs0, f0, p0, q0, hg0, ht0, hv0, hd0, _, _⟩, _, _⟩ := h
  obtain rfl := Option.some.inj (gBru.symm.trans hg0)
  obtain rfl := Option.some.inj (tBru.symm.trans ht0)
  obtain ⟨L, j1, j2⟩ := tabs_read Tryd.underlying149 sizeBru Tryd.underlying5 size5 hd0
  have hL : L = bruN.map fun (n : Nat) => (n : Int) := by
    change DataW.agg ((bruN.map fun (n : Nat) => (n : Int)).map fun n => .lit (.int .u8 n)) = _ at j2
    exact (lits_inj (DataW.agg.inj j2)).symm
  subst hL
  refine .eref 0 0 ((bruN.map fun (n : Nat) => (n : Int)).map (.int .u8)) _ (fun j v h => ctxOf_cell ?_) ?_
  · rw [Nat.zero_add, World.var?_cell hg0 hv0 j, ← Array.getElem?_toList, j1]
    exact h
  · have e : bruD = ((bruN.map fun (n : Nat) => (n : Int)).map (.int .u8)).map D.val := by unfold bruD; rw [List.map_map, List.map_map]; rfl
    rw [e]
    exact vals_den (by decide)
end Go.Proofs.YtlkpikdfbodhoaaDoor
