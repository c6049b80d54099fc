/- The table of small code is the program's own; entries and bytes as arguments. -/
import Derived.Test.YtkbamkdgiglljaaGreatWa
import Derived.Test.YtkbamkdgiglljaaGreatOa
import Derived.Test.YtkbamkdgiglljaaGreatRows
import Derived.Test.YtkbamkdgiglljaaGreatEmFlat
import Derived.ProofKit
import Derived.LaidMore
import Derived.OpenShut
import Derived.Stop.Joined
namespace Go.Proofs.YtkbamkdgiglljaaGreat
open Go Go.Em Go.RowKit Go.ChangeShapes Go.ChangeAt Go.WideShapes Go.Joins Go.Deep
set_option maxRecDepth 100000
theorem pg_ok : PgOk Tryz.prog pg := by
  intro f fc h
  change codeAt f = some fc at h
  unfold codeAt at h
  rcases bif_or h with h | h
  · rcases bif_or h with h | h
    · rcases bif_or h with h | h
      · rcases bif_or h with h | h
        · rcases bif_or h with h | h
          · rcases bif_or h with h | h
            · obtain ⟨e, rfl⟩ := bif_one h
              obtain rfl := Nat.eq_of_beq_eq_true e
              exact kc3
            · rcases bif_or h with h | h
              · obtain ⟨e, rfl⟩ := bif_one h
                obtain rfl := Nat.eq_of_beq_eq_true e
                exact kc4
              · obtain ⟨e, rfl⟩ := bif_one h
                obtain rfl := Nat.eq_of_beq_eq_true e
                exact kc5
          · rcases bif_or h with h | h
            · rcases bif_or h with h | h
              · obtain ⟨e, rfl⟩ := bif_one h
                obtain rfl := Nat.eq_of_beq_eq_true e
                exact kc6
              · obtain ⟨e, rfl⟩ := bif_one h
                obtain rfl := Nat.eq_of_beq_eq_true e
                exact kc7
            · rcases bif_or h with h | h
              · obtain ⟨e, rfl⟩ := bif_one h
                obtain rfl := Nat.eq_of_beq_eq_true e
                exact kc8
              · obtain ⟨e, rfl⟩ := bif_one h
                obtain rfl := Nat.eq_of_beq_eq_true e
                exact kc9
        · rcases bif_or h with h | h
          · rcases bif_or h with h | h
            · rcases bif_or h with h | h
              · obtain ⟨e, rfl⟩ := bif_one h
                obtain rfl := Nat.eq_of_beq_eq_true e
                exact kc10
              · obtain ⟨e, rfl⟩ := bif_one h
                obtain rfl := Nat.eq_of_beq_eq_true e
                exact kc11
            · rcases bif_or h with h | h
              · obtain ⟨e, rfl⟩ := bif_one h
                obtain rfl := Nat.eq_of_beq_eq_true e
                exact kc12
              · obtain ⟨e, rfl⟩ := bif_one h
                obtain rfl := Nat.eq_of_beq_eq_true e
                exact kc13
          · rcases bif_or h with h | h
            · rcases bif_or h with h | h
              · obtain ⟨e, rfl⟩ := bif_one h
                obtain rfl := Nat.eq_of_beq_eq_true e
                exact kc14
              · obtain ⟨e, rfl⟩ := bif_one h
                obtain rfl := Nat.eq_of_beq_eq_true e
                exact kc15
            · rcases bif_or h with h | h
              · obtain ⟨e, rfl⟩ := bif_one h
                obtain rfl := Nat.eq_of_beq_eq_true e
                exact kc16
              · obtain ⟨e, rfl⟩ := bif_one h
                obtain rfl := Nat.eq_of_beq_eq_true e
                exact kc17
      · rcases bif_or h with h | h
        · rcases bif_or h with h | h
          · rcases bif_or h with h | h
            · obtain ⟨e, rfl⟩ := bif_one h
              obtain rfl := Nat.eq_of_beq_eq_true e
              exact kc18
            · rcases bif_or h with h | h
              · obtain ⟨e, rfl⟩ := bif_one h
                obtain rfl := Nat.eq_of_beq_eq_true e
                exact kc19
              · obtain ⟨e, rfl⟩ := bif_one h
                obtain rfl := Nat.eq_of_beq_eq_true e
                exact kc20
          · rcases bif_or h with h | h
            · rcases bif_or h with h | h
              · obtain ⟨e, rfl⟩ := bif_one h
                obtain rfl := Nat.eq_of_beq_eq_true e
                exact kc21
              · obtain ⟨e, rfl⟩ := bif_one h
                obtain rfl := Nat.eq_of_beq_eq_true e
                exact kc22
            · rcases bif_or h with h | h
              · obtain ⟨e, rfl⟩ := bif_one h
                obtain rfl := Nat.eq_of_beq_eq_true e
                exact kc23
              · obtain ⟨e, rfl⟩ := bif_one h
                obtain rfl := Nat.eq_of_beq_eq_true e
                exact kc24
        · rcases bif_or h with h | h
          · rcases bif_or h with h | h
            · rcases bif_or h with h | h
              · obtain ⟨e, rfl⟩ := bif_one h
                obtain rfl := Nat.eq_of_beq_eq_true e
                exact kc25
              · obtain ⟨e, rfl⟩ := bif_one h
                obtain rfl := Nat.eq_of_beq_eq_true e
                exact kc26
            · rcases bif_or h with h | h
              · obtain ⟨e, rfl⟩ := bif_one h
                obtain rfl := Nat.eq_of_beq_eq_true e
                exact kc27
              · obtain ⟨e, rfl⟩ := bif_one h
                obtain rfl := Nat.eq_of_beq_eq_true e
                exact kc28
          · rcases bif_or h with h | h
            · rcases bif_or h with h | h
              · obtain ⟨e, rfl⟩ := bif_one h
                obtain rfl := Nat.eq_of_beq_eq_true e
                exact kc29
              · obtain ⟨e, rfl⟩ := bif_one h
                obtain rfl := Nat.eq_of_beq_eq_true e
                exact kc30
            · rcases bif_or h with h | h
              · obtain ⟨e, rfl⟩ := bif_one h
                obtain rfl := Nat.eq_of_beq_eq_true e
                exact kc31
              · obtain ⟨e, rfl⟩ := bif_one h
                obtain rfl := Nat.eq_of_beq_eq_true e
                exact kc32
    · rcases bif_or h with h | h
      · rcases bif_or h with h | h
        · rcases bif_or h with h | h
          · rcases bif_or h with h | h
            · obtain ⟨e, rfl⟩ := bif_one h
              obtain rfl := Nat.eq_of_beq_eq_true e
              exact kc33
            · rcases bif_or h with h | h
              · obtain ⟨e, rfl⟩ := bif_one h
                obtain rfl := Nat.eq_of_beq_eq_true e
                exact kc34
              · obtain ⟨e, rfl⟩ := bif_one h
                obtain rfl := Nat.eq_of_beq_eq_true e
                exact kc35
          · rcases bif_or h with h | h
            · rcases bif_or h with h | h
              · obtain ⟨e, rfl⟩ := bif_one h
                obtain rfl := Nat.eq_of_beq_eq_true e
                exact kc36
              · obtain ⟨e, rfl⟩ := bif_one h
                obtain rfl := Nat.eq_of_beq_eq_true e
                exact kc37
            · rcases bif_or h with h | h
              · obtain ⟨e, rfl⟩ := bif_one h
                obtain rfl := Nat.eq_of_beq_eq_true e
                exact kc38
              · obtain ⟨e, rfl⟩ := bif_one h
                obtain rfl := Nat.eq_of_beq_eq_true e
                exact kc39
        · rcases bif_or h with h | h
          · rcases bif_or h with h | h
            · rcases bif_or h with h | h
              · obtain ⟨e, rfl⟩ := bif_one h
                obtain rfl := Nat.eq_of_beq_eq_true e
                exact kc40
              · obtain ⟨e, rfl⟩ := bif_one h
                obtain rfl := Nat.eq_of_beq_eq_true e
                exact kc41
            · rcases bif_or h with h | h
              · obtain ⟨e, rfl⟩ := bif_one h
                obtain rfl := Nat.eq_of_beq_eq_true e
                exact kc42
              · obtain ⟨e, rfl⟩ := bif_one h
                obtain rfl := Nat.eq_of_beq_eq_true e
                exact kc43
          · rcases bif_or h with h | h
            · rcases bif_or h with h | h
              · obtain ⟨e, rfl⟩ := bif_one h
                obtain rfl := Nat.eq_of_beq_eq_true e
                exact kc44
              · obtain ⟨e, rfl⟩ := bif_one h
                obtain rfl := Nat.eq_of_beq_eq_true e
                exact kc45
            · rcases bif_or h with h | h
              · obtain ⟨e, rfl⟩ := bif_one h
                obtain rfl := Nat.eq_of_beq_eq_true e
                exact kc46
              · obtain ⟨e, rfl⟩ := bif_one h
                obtain rfl := Nat.eq_of_beq_eq_true e
                exact kc47
      · rcases bif_or h with h | h
        · rcases bif_or h with h | h
          · rcases bif_or h with h | h
            · obtain ⟨e, rfl⟩ := bif_one h
              obtain rfl := Nat.eq_of_beq_eq_true e
              exact kc48
            · rcases bif_or h with h | h
              · obtain ⟨e, rfl⟩ := bif_one h
                obtain rfl := Nat.eq_of_beq_eq_true e
                exact kc49
              · obtain ⟨e, rfl⟩ := bif_one h
                obtain rfl := Nat.eq_of_beq_eq_true e
                exact kc50
          · rcases bif_or h with h | h
            · rcases bif_or h with h | h
              · obtain ⟨e, rfl⟩ := bif_one h
                obtain rfl := Nat.eq_of_beq_eq_true e
                exact kc51
              · obtain ⟨e, rfl⟩ := bif_one h
                obtain rfl := Nat.eq_of_beq_eq_true e
                exact kc52
            · rcases bif_or h with h | h
              · obtain ⟨e, rfl⟩ := bif_one h
                obtain rfl := Nat.eq_of_beq_eq_true e
                exact kc53
              · obtain ⟨e, rfl⟩ := bif_one h
                obtain rfl := Nat.eq_of_beq_eq_true e
                exact kc54
        · rcases bif_or h with h | h
          · rcases bif_or h with h | h
            · rcases bif_or h with h | h
              · obtain ⟨e, rfl⟩ := bif_one h
                obtain rfl := Nat.eq_of_beq_eq_true e
                exact kc55
              · obtain ⟨e, rfl⟩ := bif_one h
                obtain rfl := Nat.eq_of_beq_eq_true e
                exact kc56
            · rcases bif_or h with h | h
              · obtain ⟨e, rfl⟩ := bif_one h
                obtain rfl := Nat.eq_of_beq_eq_true e
                exact kc57
              · obtain ⟨e, rfl⟩ := bif_one h
                obtain rfl := Nat.eq_of_beq_eq_true e
                exact kc58
          · rcases bif_or h with h | h
            · rcases bif_or h with h | h
              · obtain ⟨e, rfl⟩ := bif_one h
                obtain rfl := Nat.eq_of_beq_eq_true e
                exact kc59
              · obtain ⟨e, rfl⟩ := bif_one h
                obtain rfl := Nat.eq_of_beq_eq_true e
                exact kc60
            · rcases bif_or h with h | h
              · obtain ⟨e, rfl⟩ := bif_one h
                obtain rfl := Nat.eq_of_beq_eq_true e
                exact kc61
              · obtain ⟨e, rfl⟩ := bif_one h
                obtain rfl := Nat.eq_of_beq_eq_true e
                exact kc62
  · rcases bif_or h with h | h
    · rcases bif_or h with h | h
      · rcases bif_or h with h | h
        · rcases bif_or h with h | h
          · rcases bif_or h with h | h
            · obtain ⟨e, rfl⟩ := bif_one h
              obtain rfl := Nat.eq_of_beq_eq_true e
              exact kc63
            · rcases bif_or h with h | h
              · obtain ⟨e, rfl⟩ := bif_one h
                obtain rfl := Nat.eq_of_beq_eq_true e
                exact kc64
              · obtain ⟨e, rfl⟩ := bif_one h
                obtain rfl := Nat.eq_of_beq_eq_true e
                exact kc65
          · rcases bif_or h with h | h
            · rcases bif_or h with h | h
              · obtain ⟨e, rfl⟩ := bif_one h
                obtain rfl := Nat.eq_of_beq_eq_true e
                exact kc66
              · obtain ⟨e, rfl⟩ := bif_one h
                obtain rfl := Nat.eq_of_beq_eq_true e
                exact kc67
            · rcases bif_or h with h | h
              · obtain ⟨e, rfl⟩ := bif_one h
                obtain rfl := Nat.eq_of_beq_eq_true e
                exact kc68
              · obtain ⟨e, rfl⟩ := bif_one h
                obtain rfl := Nat.eq_of_beq_eq_true e
                exact kc69
        · rcases bif_or h with h | h
          · rcases bif_or h with h | h
            · rcases bif_or h with h | h
              · obtain ⟨e, rfl⟩ := bif_one h
                obtain rfl := Nat.eq_of_beq_eq_true e
                exact kc70
              · obtain ⟨e, rfl⟩ := bif_one h
                obtain rfl := Nat.eq_of_beq_eq_true e
                exact kc71
            · rcases bif_or h with h | h
              · obtain ⟨e, rfl⟩ := bif_one h
                obtain rfl := Nat.eq_of_beq_eq_true e
                exact kc72
              · obtain ⟨e, rfl⟩ := bif_one h
                obtain rfl := Nat.eq_of_beq_eq_true e
                exact kc73
          · rcases bif_or h with h | h
            · rcases bif_or h with h | h
              · obtain ⟨e, rfl⟩ := bif_one h
                obtain rfl := Nat.eq_of_beq_eq_true e
                exact kc74
              · obtain ⟨e, rfl⟩ := bif_one h
                obtain rfl := Nat.eq_of_beq_eq_true e
                exact kc75
            · rcases bif_or h with h | h
              · obtain ⟨e, rfl⟩ := bif_one h
                obtain rfl := Nat.eq_of_beq_eq_true e
                exact kc76
              · obtain ⟨e, rfl⟩ := bif_one h
                obtain rfl := Nat.eq_of_beq_eq_true e
                exact kc77
      · rcases bif_or h with h | h
        · rcases bif_or h with h | h
          · rcases bif_or h with h | h
            · obtain ⟨e, rfl⟩ := bif_one h
              obtain rfl := Nat.eq_of_beq_eq_true e
              exact kc78
            · rcases bif_or h with h | h
              · obtain ⟨e, rfl⟩ := bif_one h
                obtain rfl := Nat.eq_of_beq_eq_true e
                exact kc79
              · obtain ⟨e, rfl⟩ := bif_one h
                obtain rfl := Nat.eq_of_beq_eq_true e
                exact kc80
          · rcases bif_or h with h | h
            · rcases bif_or h with h | h
              · obtain ⟨e, rfl⟩ := bif_one h
                obtain rfl := Nat.eq_of_beq_eq_true e
                exact kc81
              · obtain ⟨e, rfl⟩ := bif_one h
                obtain rfl := Nat.eq_of_beq_eq_true e
                exact kc82
            · rcases bif_or h with h | h
              · obtain ⟨e, rfl⟩ := bif_one h
                obtain rfl := Nat.eq_of_beq_eq_true e
                exact kc83
              · obtain ⟨e, rfl⟩ := bif_one h
                obtain rfl := Nat.eq_of_beq_eq_true e
                exact kc84
        · rcases bif_or h with h | h
          · rcases bif_or h with h | h
            · rcases bif_or h with h | h
              · obtain ⟨e, rfl⟩ := bif_one h
                obtain rfl := Nat.eq_of_beq_eq_true e
                exact kc85
              · obtain ⟨e, rfl⟩ := bif_one h
                obtain rfl := Nat.eq_of_beq_eq_true e
                exact kc86
            · rcases bif_or h with h | h
              · obtain ⟨e, rfl⟩ := bif_one h
                obtain rfl := Nat.eq_of_beq_eq_true e
                exact kc87
              · obtain ⟨e, rfl⟩ := bif_one h
                obtain rfl := Nat.eq_of_beq_eq_true e
                exact kc88
          · rcases bif_or h with h | h
            · rcases bif_or h with h | h
              · obtain ⟨e, rfl⟩ := bif_one h
                obtain rfl := Nat.eq_of_beq_eq_true e
                exact kc89
              · obtain ⟨e, rfl⟩ := bif_one h
                obtain rfl := Nat.eq_of_beq_eq_true e
                exact kc90
            · rcases bif_or h with h | h
              · obtain ⟨e, rfl⟩ := bif_one h
                obtain rfl := Nat.eq_of_beq_eq_true e
                exact kc91
              · obtain ⟨e, rfl⟩ := bif_one h
                obtain rfl := Nat.eq_of_beq_eq_true e
                exact kc92
    · rcases bif_or h with h | h
      · rcases bif_or h with h | h
        · rcases bif_or h with h | h
          · rcases bif_or h with h | h
            · obtain ⟨e, rfl⟩ := bif_one h
              obtain rfl := Nat.eq_of_beq_eq_true e
              exact kc93
            · rcases bif_or h with h | h
              · obtain ⟨e, rfl⟩ := bif_one h
                obtain rfl := Nat.eq_of_beq_eq_true e
                exact kc94
              · obtain ⟨e, rfl⟩ := bif_one h
                obtain rfl := Nat.eq_of_beq_eq_true e
                exact kc95
          · rcases bif_or h with h | h
            · rcases bif_or h with h | h
              · obtain ⟨e, rfl⟩ := bif_one h
                obtain rfl := Nat.eq_of_beq_eq_true e
                exact kc96
              · obtain ⟨e, rfl⟩ := bif_one h
                obtain rfl := Nat.eq_of_beq_eq_true e
                exact kc97
            · rcases bif_or h with h | h
              · obtain ⟨e, rfl⟩ := bif_one h
                obtain rfl := Nat.eq_of_beq_eq_true e
                exact kc98
              · obtain ⟨e, rfl⟩ := bif_one h
                obtain rfl := Nat.eq_of_beq_eq_true e
                exact kc99
        · rcases bif_or h with h | h
          · rcases bif_or h with h | h
            · rcases bif_or h with h | h
              · obtain ⟨e, rfl⟩ := bif_one h
                obtain rfl := Nat.eq_of_beq_eq_true e
                exact kc100
              · obtain ⟨e, rfl⟩ := bif_one h
                obtain rfl := Nat.eq_of_beq_eq_true e
                exact kc101
            · rcases bif_or h with h | h
              · obtain ⟨e, rfl⟩ := bif_one h
                obtain rfl := Nat.eq_of_beq_eq_true e
                exact kc102
              · obtain ⟨e, rfl⟩ := bif_one h
                obtain rfl := Nat.eq_of_beq_eq_true e
                exact kc103
          · rcases bif_or h with h | h
            · rcases bif_or h with h | h
              · obtain ⟨e, rfl⟩ := bif_one h
                obtain rfl := Nat.eq_of_beq_eq_true e
                exact kc104
              · obtain ⟨e, rfl⟩ := bif_one h
                obtain rfl := Nat.eq_of_beq_eq_true e
                exact kc105
            · rcases bif_or h with h | h
              · obtain ⟨e, rfl⟩ := bif_one h
                obtain rfl := Nat.eq_of_beq_eq_true e
                exact kc106
              · obtain ⟨e, rfl⟩ := bif_one h
                obtain rfl := Nat.eq_of_beq_eq_true e
                exact kc107
      · rcases bif_or h with h | h
        · rcases bif_or h with h | h
          · rcases bif_or h with h | h
            · rcases bif_or h with h | h
              · obtain ⟨e, rfl⟩ := bif_one h
                obtain rfl := Nat.eq_of_beq_eq_true e
                exact kc108
              · obtain ⟨e, rfl⟩ := bif_one h
                obtain rfl := Nat.eq_of_beq_eq_true e
                exact kc109
            · rcases bif_or h with h | h
              · obtain ⟨e, rfl⟩ := bif_one h
                obtain rfl := Nat.eq_of_beq_eq_true e
                exact kc110
              · obtain ⟨e, rfl⟩ := bif_one h
                obtain rfl := Nat.eq_of_beq_eq_true e
                exact kc111
          · rcases bif_or h with h | h
            · rcases bif_or h with h | h
              · obtain ⟨e, rfl⟩ := bif_one h
                obtain rfl := Nat.eq_of_beq_eq_true e
                exact kc112
              · obtain ⟨e, rfl⟩ := bif_one h
                obtain rfl := Nat.eq_of_beq_eq_true e
                exact kc113
            · rcases bif_or h with h | h
              · obtain ⟨e, rfl⟩ := bif_one h
                obtain rfl := Nat.eq_of_beq_eq_true e
                exact kc114
              · obtain ⟨e, rfl⟩ := bif_one h
                obtain rfl := Nat.eq_of_beq_eq_true e
                exact kc115
        · rcases bif_or h with h | h
          · rcases bif_or h with h | h
            · rcases bif_or h with h | h
              · obtain ⟨e, rfl⟩ := bif_one h
                obtain rfl := Nat.eq_of_beq_eq_true e
                exact kc116
              · obtain ⟨e, rfl⟩ := bif_one h
                obtain rfl := Nat.eq_of_beq_eq_true e
                exact kc117
            · rcases bif_or h with h | h
              · obtain ⟨e, rfl⟩ := bif_one h
                obtain rfl := Nat.eq_of_beq_eq_true e
                exact kc118
              · obtain ⟨e, rfl⟩ := bif_one h
                obtain rfl := Nat.eq_of_beq_eq_true e
                exact kc119
          · rcases bif_or h with h | h
            · rcases bif_or h with h | h
              · obtain ⟨e, rfl⟩ := bif_one h
                obtain rfl := Nat.eq_of_beq_eq_true e
                exact kc120
              · obtain ⟨e, rfl⟩ := bif_one h
                obtain rfl := Nat.eq_of_beq_eq_true e
                exact kc121
            · rcases bif_or h with h | h
              · obtain ⟨e, rfl⟩ := bif_one h
                obtain rfl := Nat.eq_of_beq_eq_true e
                exact kc122
              · obtain ⟨e, rfl⟩ := bif_one h
                obtain rfl := Nat.eq_of_beq_eq_true e
                exact kc123
theorem own : ownKnob Tryz.prog.godebug = none := by kernel_rfl
theorem laidOk : laidOutB Tryz.prog = true := by kernel_rfl
theorem gl_pure : ∀ g cs, pg.gl g = some cs → D.pureL cs = true := fun _ _ h => by cases h
theorem words_in {W : World} : ∀ g cs, pg.gl g = some cs → Den (ctxOf W) (.pointer (some ⟨g, 0, none⟩)) (.eref cs) := fun _ _ h => by cases h
theorem size3 : Tryz.prog.cellsOf 3 = 1 := by kernel_rfl
theorem size4 : Tryz.prog.cellsOf 4 = 1 := by kernel_rfl
theorem size5 : Tryz.prog.cellsOf 5 = 1 := by kernel_rfl
theorem size9 : Tryz.prog.cellsOf 9 = 1 := by kernel_rfl
theorem size23 : Tryz.prog.cellsOf 23 = 2 := by kernel_rfl
theorem size25 : Tryz.prog.cellsOf 25 = 8 := by kernel_rfl
theorem bytes5 : Tryz.prog.bytesOf 5 = 1 := by kernel_rfl
section
variable {H : Type} {enc : TypeId × Value → H} {W : World} {base : Nat} {r : Reach} {b0 : Nat} {spare : Nat → Bool} {held : Bool} {v : Value} {d : DataW H} {p : List MemPlace}
theorem agg_of_struct {P : Program} {w : World} {t : TypeId} {fs : Array Field} {v : Value} (ht : P.underlying t = some (.struct fs)) (hv : Value.okWide P w r b0 t v) : ∃ cs, v = .agg cs := by
  simp only [Value.okWide, ht] at hv
  obtain ⟨cs, h, _⟩ := hv
  exact ⟨cs, h⟩
theorem reads_i : Reads enc Tryz.prog W base spare held 3 (fun n : Int => [D.int n]) (fun _ => True) :=
  (reads_int Tryz.underlying3).map id (fun _ => rfl) (fun _ _ => trivial)
theorem reads_place : Reads enc Tryz.prog W base spare held 23 (fun x : Int × Int => [D.int x.1, D.int x.2]) (fun _ => True) := by
  have := reads_struct (enc := enc) (w := W) (base := base) (spare := spare) (held := held) Tryz.underlying23 (by
    rw [size23]
    exact freads_cons (o := 0) reads_i rfl size3 (freads_cons (o := 1) reads_i rfl size3 freads_nil))
  exact this.map (fun x => ((x.1, x.2.1) : Int × Int)) (fun _ => rfl) (fun _ _ => trivial)
theorem reads_str : Reads enc Tryz.prog W base spare held 9 (fun s : ByteArray => [.val (.string s)]) (fun _ => True) :=
  (reads_string Tryz.underlying9).map id (fun _ => rfl) (fun _ _ => trivial)
theorem reads_entry : Reads enc Tryz.prog W base spare held 25 entL (fun _ => True) := by
  have := reads_struct (enc := enc) (w := W) (base := base) (spare := spare) (held := held) Tryz.underlying25 (by
    rw [size25]
    exact freads_cons (o := 0) reads_place rfl size23 (freads_cons (o := 2) reads_i rfl size3 (freads_cons (o := 3) reads_i rfl size3 (freads_cons (o := 4) reads_i rfl size3 (freads_cons (o := 5) reads_place rfl size23 (freads_cons (o := 7) reads_str rfl size9 freads_nil))))))
  exact this.map (fun x => (⟨x.1.1, x.1.2, x.2.1, x.2.2.1, x.2.2.2.1, x.2.2.2.2.1.1, x.2.2.2.2.1.2, x.2.2.2.2.2.1.data.toList⟩ : Ent)) (fun x => by simp [entL, strD]) (fun _ _ => trivial)
theorem reads_u8 : Reads enc Tryz.prog W base spare held 5 (fun b : UInt8 => [u1D b.toNat]) (fun _ => True) := by
  intro fuel cs x hx
  obtain ⟨n, rfl, _, hw⟩ := DataW.trod_int Tryz.underlying5 hx
  have hm : IntKind.u8.min = 0 := by decide
  have hM : IntKind.u8.max = 255 := by decide
  simp only [Lit.wf, hm, hM, Bool.and_eq_true, decide_eq_true_eq] at hw
  refine ⟨UInt8.ofNat n.toNat, ?_, fun _ => trivial⟩
  have e : (((UInt8.ofNat n.toNat).toNat : Nat) : Int) = n := by
    rw [UInt8.toNat_ofNat']; omega
  show DenL (ctxOf W) [Value.int IntKind.u8 n] [.val (.int .u8 (((UInt8.ofNat n.toNat).toNat : Nat) : Int))]
  rw [e]
  exact .cons _ _ _ _ (.val _ rfl) .nil
theorem reads_bytes : Reads enc Tryz.prog W base spare held 26 (fun l : List UInt8 => [bD l]) (fun l => l.length ≤ reachBytes) :=
  (reads_slice (fun b : UInt8 => u1D b.toNat) Tryz.underlying26 size5 (by omega) (fun _ => rfl) (fun _ => rfl) (fun _ => rfl) reads_u8).map id (fun _ => rfl) (fun a h => by have := h.1; rw [bytes5, Nat.mul_one] at this; exact this)
theorem entry_in (hv : Value.okWide Tryz.prog W r b0 25 v) (h : DataW.Trod enc Tryz.prog W base spare held 25 v d p) : ∃ x : Ent, Den (ctxOf W) v (entD x) := by
  obtain ⟨cs, rfl⟩ := agg_of_struct Tryz.underlying25 hv
  obtain ⟨a, ha, _⟩ := reads_entry.agg h
  exact ⟨a, ha⟩
theorem bytes_in (hv : Value.okWide Tryz.prog W r b0 26 v) (h : DataW.Trod enc Tryz.prog W base spare held 26 v d p) : ∃ l : List UInt8, ((d.weights Tryz.prog 26).all (· ≤ reachBytes) = true → l.length ≤ reachBytes) ∧ Den (ctxOf W) v (bD l) := by
  obtain ⟨a, len, cap, rfl⟩ := okWide_slice Tryz.underlying26 hv
  obtain ⟨l, h1, h2⟩ := reads_bytes.one rfl h
  exact ⟨l, h2, h1⟩
end
end Go.Proofs.YtkbamkdgiglljaaGreat
