/- The table of small code is the program's own; what memory holds when a law is called. -/
import Derived.Test.YtlfknfknlcgfcaaGreatDoorPg
import Derived.Test.YtlfknfknlcgfcaaGreatDoorTie
import Derived.Test.YtlfknfknlcgfcaaGreatDoorEmW
import Derived.ProofKit
import Derived.LaidMore
import Derived.OpenShut
import Derived.Stop.Joined
namespace Go.Proofs.YtlfknfknlcgfcaaGreatDoor
open Go Go.Em Go.RowKit Go.ChangeShapes
set_option maxRecDepth 100000
theorem pg_ok : PgOk Tryz.prog pg := by
  intro f fc h
  change codeAt f = some fc at h
  unfold codeAt at h
  rcases bif_or h with h | h
  · rcases bif_or h with h | h
    · rcases bif_or h with h | h
      · rcases bif_or h with h | h
        · rcases bif_or h with h | h
          · rcases bif_or h with h | h
            · rcases bif_or h with h | h
              · obtain ⟨e, rfl⟩ := bif_one h
                obtain rfl := Nat.eq_of_beq_eq_true e
                exact kc9
              · obtain ⟨e, rfl⟩ := bif_one h
                obtain rfl := Nat.eq_of_beq_eq_true e
                exact kc15
            · rcases bif_or h with h | h
              · obtain ⟨e, rfl⟩ := bif_one h
                obtain rfl := Nat.eq_of_beq_eq_true e
                exact kc21
              · obtain ⟨e, rfl⟩ := bif_one h
                obtain rfl := Nat.eq_of_beq_eq_true e
                exact kc24
          · rcases bif_or h with h | h
            · rcases bif_or h with h | h
              · obtain ⟨e, rfl⟩ := bif_one h
                obtain rfl := Nat.eq_of_beq_eq_true e
                exact kc27
              · obtain ⟨e, rfl⟩ := bif_one h
                obtain rfl := Nat.eq_of_beq_eq_true e
                exact kc32
            · rcases bif_or h with h | h
              · obtain ⟨e, rfl⟩ := bif_one h
                obtain rfl := Nat.eq_of_beq_eq_true e
                exact kc38
              · rcases bif_or h with h | h
                · obtain ⟨e, rfl⟩ := bif_one h
                  obtain rfl := Nat.eq_of_beq_eq_true e
                  exact kc39
                · obtain ⟨e, rfl⟩ := bif_one h
                  obtain rfl := Nat.eq_of_beq_eq_true e
                  exact kc41
        · rcases bif_or h with h | h
          · rcases bif_or h with h | h
            · rcases bif_or h with h | h
              · obtain ⟨e, rfl⟩ := bif_one h
                obtain rfl := Nat.eq_of_beq_eq_true e
                exact kc42
              · obtain ⟨e, rfl⟩ := bif_one h
                obtain rfl := Nat.eq_of_beq_eq_true e
                exact kc43
            · rcases bif_or h with h | h
              · obtain ⟨e, rfl⟩ := bif_one h
                obtain rfl := Nat.eq_of_beq_eq_true e
                exact kc44
              · obtain ⟨e, rfl⟩ := bif_one h
                obtain rfl := Nat.eq_of_beq_eq_true e
                exact kc45
          · rcases bif_or h with h | h
            · rcases bif_or h with h | h
              · obtain ⟨e, rfl⟩ := bif_one h
                obtain rfl := Nat.eq_of_beq_eq_true e
                exact kc52
              · obtain ⟨e, rfl⟩ := bif_one h
                obtain rfl := Nat.eq_of_beq_eq_true e
                exact kc54
            · rcases bif_or h with h | h
              · obtain ⟨e, rfl⟩ := bif_one h
                obtain rfl := Nat.eq_of_beq_eq_true e
                exact kc57
              · rcases bif_or h with h | h
                · obtain ⟨e, rfl⟩ := bif_one h
                  obtain rfl := Nat.eq_of_beq_eq_true e
                  exact kc58
                · obtain ⟨e, rfl⟩ := bif_one h
                  obtain rfl := Nat.eq_of_beq_eq_true e
                  exact kc59
      · rcases bif_or h with h | h
        · rcases bif_or h with h | h
          · rcases bif_or h with h | h
            · rcases bif_or h with h | h
              · obtain ⟨e, rfl⟩ := bif_one h
                obtain rfl := Nat.eq_of_beq_eq_true e
                exact kc60
              · obtain ⟨e, rfl⟩ := bif_one h
                obtain rfl := Nat.eq_of_beq_eq_true e
                exact kc62
            · rcases bif_or h with h | h
              · obtain ⟨e, rfl⟩ := bif_one h
                obtain rfl := Nat.eq_of_beq_eq_true e
                exact kc66
              · obtain ⟨e, rfl⟩ := bif_one h
                obtain rfl := Nat.eq_of_beq_eq_true e
                exact kc69
          · rcases bif_or h with h | h
            · rcases bif_or h with h | h
              · obtain ⟨e, rfl⟩ := bif_one h
                obtain rfl := Nat.eq_of_beq_eq_true e
                exact kc72
              · obtain ⟨e, rfl⟩ := bif_one h
                obtain rfl := Nat.eq_of_beq_eq_true e
                exact kc75
            · rcases bif_or h with h | h
              · obtain ⟨e, rfl⟩ := bif_one h
                obtain rfl := Nat.eq_of_beq_eq_true e
                exact kc76
              · rcases bif_or h with h | h
                · obtain ⟨e, rfl⟩ := bif_one h
                  obtain rfl := Nat.eq_of_beq_eq_true e
                  exact kc84
                · obtain ⟨e, rfl⟩ := bif_one h
                  obtain rfl := Nat.eq_of_beq_eq_true e
                  exact kc85
        · rcases bif_or h with h | h
          · rcases bif_or h with h | h
            · rcases bif_or h with h | h
              · obtain ⟨e, rfl⟩ := bif_one h
                obtain rfl := Nat.eq_of_beq_eq_true e
                exact kc86
              · obtain ⟨e, rfl⟩ := bif_one h
                obtain rfl := Nat.eq_of_beq_eq_true e
                exact kc87
            · rcases bif_or h with h | h
              · obtain ⟨e, rfl⟩ := bif_one h
                obtain rfl := Nat.eq_of_beq_eq_true e
                exact kc88
              · obtain ⟨e, rfl⟩ := bif_one h
                obtain rfl := Nat.eq_of_beq_eq_true e
                exact kc93
          · rcases bif_or h with h | h
            · rcases bif_or h with h | h
              · obtain ⟨e, rfl⟩ := bif_one h
                obtain rfl := Nat.eq_of_beq_eq_true e
                exact kc94
              · obtain ⟨e, rfl⟩ := bif_one h
                obtain rfl := Nat.eq_of_beq_eq_true e
                exact kc95
            · rcases bif_or h with h | h
              · obtain ⟨e, rfl⟩ := bif_one h
                obtain rfl := Nat.eq_of_beq_eq_true e
                exact kc96
              · rcases bif_or h with h | h
                · obtain ⟨e, rfl⟩ := bif_one h
                  obtain rfl := Nat.eq_of_beq_eq_true e
                  exact kc100
                · obtain ⟨e, rfl⟩ := bif_one h
                  obtain rfl := Nat.eq_of_beq_eq_true e
                  exact kc101
    · rcases bif_or h with h | h
      · rcases bif_or h with h | h
        · rcases bif_or h with h | h
          · rcases bif_or h with h | h
            · rcases bif_or h with h | h
              · obtain ⟨e, rfl⟩ := bif_one h
                obtain rfl := Nat.eq_of_beq_eq_true e
                exact kc102
              · obtain ⟨e, rfl⟩ := bif_one h
                obtain rfl := Nat.eq_of_beq_eq_true e
                exact kc103
            · rcases bif_or h with h | h
              · obtain ⟨e, rfl⟩ := bif_one h
                obtain rfl := Nat.eq_of_beq_eq_true e
                exact kc104
              · obtain ⟨e, rfl⟩ := bif_one h
                obtain rfl := Nat.eq_of_beq_eq_true e
                exact kc105
          · rcases bif_or h with h | h
            · rcases bif_or h with h | h
              · obtain ⟨e, rfl⟩ := bif_one h
                obtain rfl := Nat.eq_of_beq_eq_true e
                exact kc106
              · obtain ⟨e, rfl⟩ := bif_one h
                obtain rfl := Nat.eq_of_beq_eq_true e
                exact kc107
            · rcases bif_or h with h | h
              · obtain ⟨e, rfl⟩ := bif_one h
                obtain rfl := Nat.eq_of_beq_eq_true e
                exact kc108
              · rcases bif_or h with h | h
                · obtain ⟨e, rfl⟩ := bif_one h
                  obtain rfl := Nat.eq_of_beq_eq_true e
                  exact kc109
                · obtain ⟨e, rfl⟩ := bif_one h
                  obtain rfl := Nat.eq_of_beq_eq_true e
                  exact kc110
        · rcases bif_or h with h | h
          · rcases bif_or h with h | h
            · rcases bif_or h with h | h
              · obtain ⟨e, rfl⟩ := bif_one h
                obtain rfl := Nat.eq_of_beq_eq_true e
                exact kc111
              · obtain ⟨e, rfl⟩ := bif_one h
                obtain rfl := Nat.eq_of_beq_eq_true e
                exact kc112
            · rcases bif_or h with h | h
              · obtain ⟨e, rfl⟩ := bif_one h
                obtain rfl := Nat.eq_of_beq_eq_true e
                exact kc113
              · obtain ⟨e, rfl⟩ := bif_one h
                obtain rfl := Nat.eq_of_beq_eq_true e
                exact kc114
          · rcases bif_or h with h | h
            · rcases bif_or h with h | h
              · obtain ⟨e, rfl⟩ := bif_one h
                obtain rfl := Nat.eq_of_beq_eq_true e
                exact kc119
              · obtain ⟨e, rfl⟩ := bif_one h
                obtain rfl := Nat.eq_of_beq_eq_true e
                exact kc120
            · rcases bif_or h with h | h
              · obtain ⟨e, rfl⟩ := bif_one h
                obtain rfl := Nat.eq_of_beq_eq_true e
                exact kc122
              · rcases bif_or h with h | h
                · obtain ⟨e, rfl⟩ := bif_one h
                  obtain rfl := Nat.eq_of_beq_eq_true e
                  exact kc127
                · obtain ⟨e, rfl⟩ := bif_one h
                  obtain rfl := Nat.eq_of_beq_eq_true e
                  exact kc128
      · rcases bif_or h with h | h
        · rcases bif_or h with h | h
          · rcases bif_or h with h | h
            · rcases bif_or h with h | h
              · obtain ⟨e, rfl⟩ := bif_one h
                obtain rfl := Nat.eq_of_beq_eq_true e
                exact kc129
              · obtain ⟨e, rfl⟩ := bif_one h
                obtain rfl := Nat.eq_of_beq_eq_true e
                exact kc130
            · rcases bif_or h with h | h
              · obtain ⟨e, rfl⟩ := bif_one h
                obtain rfl := Nat.eq_of_beq_eq_true e
                exact kc136
              · obtain ⟨e, rfl⟩ := bif_one h
                obtain rfl := Nat.eq_of_beq_eq_true e
                exact kc137
          · rcases bif_or h with h | h
            · rcases bif_or h with h | h
              · obtain ⟨e, rfl⟩ := bif_one h
                obtain rfl := Nat.eq_of_beq_eq_true e
                exact kc138
              · obtain ⟨e, rfl⟩ := bif_one h
                obtain rfl := Nat.eq_of_beq_eq_true e
                exact kc141
            · rcases bif_or h with h | h
              · obtain ⟨e, rfl⟩ := bif_one h
                obtain rfl := Nat.eq_of_beq_eq_true e
                exact kc145
              · rcases bif_or h with h | h
                · obtain ⟨e, rfl⟩ := bif_one h
                  obtain rfl := Nat.eq_of_beq_eq_true e
                  exact kc146
                · obtain ⟨e, rfl⟩ := bif_one h
                  obtain rfl := Nat.eq_of_beq_eq_true e
                  exact kc147
        · rcases bif_or h with h | h
          · rcases bif_or h with h | h
            · rcases bif_or h with h | h
              · obtain ⟨e, rfl⟩ := bif_one h
                obtain rfl := Nat.eq_of_beq_eq_true e
                exact kc148
              · obtain ⟨e, rfl⟩ := bif_one h
                obtain rfl := Nat.eq_of_beq_eq_true e
                exact kc149
            · rcases bif_or h with h | h
              · obtain ⟨e, rfl⟩ := bif_one h
                obtain rfl := Nat.eq_of_beq_eq_true e
                exact kc152
              · rcases bif_or h with h | h
                · obtain ⟨e, rfl⟩ := bif_one h
                  obtain rfl := Nat.eq_of_beq_eq_true e
                  exact kc153
                · obtain ⟨e, rfl⟩ := bif_one h
                  obtain rfl := Nat.eq_of_beq_eq_true e
                  exact kc154
          · rcases bif_or h with h | h
            · rcases bif_or h with h | h
              · obtain ⟨e, rfl⟩ := bif_one h
                obtain rfl := Nat.eq_of_beq_eq_true e
                exact kc155
              · obtain ⟨e, rfl⟩ := bif_one h
                obtain rfl := Nat.eq_of_beq_eq_true e
                exact kc156
            · rcases bif_or h with h | h
              · obtain ⟨e, rfl⟩ := bif_one h
                obtain rfl := Nat.eq_of_beq_eq_true e
                exact kc157
              · rcases bif_or h with h | h
                · obtain ⟨e, rfl⟩ := bif_one h
                  obtain rfl := Nat.eq_of_beq_eq_true e
                  exact kc158
                · obtain ⟨e, rfl⟩ := bif_one h
                  obtain rfl := Nat.eq_of_beq_eq_true e
                  exact kc159
  · rcases bif_or h with h | h
    · rcases bif_or h with h | h
      · rcases bif_or h with h | h
        · rcases bif_or h with h | h
          · rcases bif_or h with h | h
            · rcases bif_or h with h | h
              · obtain ⟨e, rfl⟩ := bif_one h
                obtain rfl := Nat.eq_of_beq_eq_true e
                exact kc160
              · obtain ⟨e, rfl⟩ := bif_one h
                obtain rfl := Nat.eq_of_beq_eq_true e
                exact kc161
            · rcases bif_or h with h | h
              · obtain ⟨e, rfl⟩ := bif_one h
                obtain rfl := Nat.eq_of_beq_eq_true e
                exact kc162
              · obtain ⟨e, rfl⟩ := bif_one h
                obtain rfl := Nat.eq_of_beq_eq_true e
                exact kc165
          · rcases bif_or h with h | h
            · rcases bif_or h with h | h
              · obtain ⟨e, rfl⟩ := bif_one h
                obtain rfl := Nat.eq_of_beq_eq_true e
                exact kc166
              · obtain ⟨e, rfl⟩ := bif_one h
                obtain rfl := Nat.eq_of_beq_eq_true e
                exact kc167
            · rcases bif_or h with h | h
              · obtain ⟨e, rfl⟩ := bif_one h
                obtain rfl := Nat.eq_of_beq_eq_true e
                exact kc168
              · rcases bif_or h with h | h
                · obtain ⟨e, rfl⟩ := bif_one h
                  obtain rfl := Nat.eq_of_beq_eq_true e
                  exact kc169
                · obtain ⟨e, rfl⟩ := bif_one h
                  obtain rfl := Nat.eq_of_beq_eq_true e
                  exact kc170
        · rcases bif_or h with h | h
          · rcases bif_or h with h | h
            · rcases bif_or h with h | h
              · obtain ⟨e, rfl⟩ := bif_one h
                obtain rfl := Nat.eq_of_beq_eq_true e
                exact kc171
              · obtain ⟨e, rfl⟩ := bif_one h
                obtain rfl := Nat.eq_of_beq_eq_true e
                exact kc172
            · rcases bif_or h with h | h
              · obtain ⟨e, rfl⟩ := bif_one h
                obtain rfl := Nat.eq_of_beq_eq_true e
                exact kc173
              · obtain ⟨e, rfl⟩ := bif_one h
                obtain rfl := Nat.eq_of_beq_eq_true e
                exact kc174
          · rcases bif_or h with h | h
            · rcases bif_or h with h | h
              · obtain ⟨e, rfl⟩ := bif_one h
                obtain rfl := Nat.eq_of_beq_eq_true e
                exact kc176
              · obtain ⟨e, rfl⟩ := bif_one h
                obtain rfl := Nat.eq_of_beq_eq_true e
                exact kc179
            · rcases bif_or h with h | h
              · obtain ⟨e, rfl⟩ := bif_one h
                obtain rfl := Nat.eq_of_beq_eq_true e
                exact kc180
              · rcases bif_or h with h | h
                · obtain ⟨e, rfl⟩ := bif_one h
                  obtain rfl := Nat.eq_of_beq_eq_true e
                  exact kc181
                · obtain ⟨e, rfl⟩ := bif_one h
                  obtain rfl := Nat.eq_of_beq_eq_true e
                  exact kc182
      · rcases bif_or h with h | h
        · rcases bif_or h with h | h
          · rcases bif_or h with h | h
            · rcases bif_or h with h | h
              · obtain ⟨e, rfl⟩ := bif_one h
                obtain rfl := Nat.eq_of_beq_eq_true e
                exact kc183
              · obtain ⟨e, rfl⟩ := bif_one h
                obtain rfl := Nat.eq_of_beq_eq_true e
                exact kc185
            · rcases bif_or h with h | h
              · obtain ⟨e, rfl⟩ := bif_one h
                obtain rfl := Nat.eq_of_beq_eq_true e
                exact kc186
              · obtain ⟨e, rfl⟩ := bif_one h
                obtain rfl := Nat.eq_of_beq_eq_true e
                exact kc187
          · rcases bif_or h with h | h
            · rcases bif_or h with h | h
              · obtain ⟨e, rfl⟩ := bif_one h
                obtain rfl := Nat.eq_of_beq_eq_true e
                exact kc188
              · obtain ⟨e, rfl⟩ := bif_one h
                obtain rfl := Nat.eq_of_beq_eq_true e
                exact kc189
            · rcases bif_or h with h | h
              · obtain ⟨e, rfl⟩ := bif_one h
                obtain rfl := Nat.eq_of_beq_eq_true e
                exact kc190
              · rcases bif_or h with h | h
                · obtain ⟨e, rfl⟩ := bif_one h
                  obtain rfl := Nat.eq_of_beq_eq_true e
                  exact kc191
                · obtain ⟨e, rfl⟩ := bif_one h
                  obtain rfl := Nat.eq_of_beq_eq_true e
                  exact kc192
        · rcases bif_or h with h | h
          · rcases bif_or h with h | h
            · rcases bif_or h with h | h
              · obtain ⟨e, rfl⟩ := bif_one h
                obtain rfl := Nat.eq_of_beq_eq_true e
                exact kc193
              · obtain ⟨e, rfl⟩ := bif_one h
                obtain rfl := Nat.eq_of_beq_eq_true e
                exact kc194
            · rcases bif_or h with h | h
              · obtain ⟨e, rfl⟩ := bif_one h
                obtain rfl := Nat.eq_of_beq_eq_true e
                exact kc195
              · rcases bif_or h with h | h
                · obtain ⟨e, rfl⟩ := bif_one h
                  obtain rfl := Nat.eq_of_beq_eq_true e
                  exact kc198
                · obtain ⟨e, rfl⟩ := bif_one h
                  obtain rfl := Nat.eq_of_beq_eq_true e
                  exact kc199
          · rcases bif_or h with h | h
            · rcases bif_or h with h | h
              · obtain ⟨e, rfl⟩ := bif_one h
                obtain rfl := Nat.eq_of_beq_eq_true e
                exact kc200
              · obtain ⟨e, rfl⟩ := bif_one h
                obtain rfl := Nat.eq_of_beq_eq_true e
                exact kc201
            · rcases bif_or h with h | h
              · obtain ⟨e, rfl⟩ := bif_one h
                obtain rfl := Nat.eq_of_beq_eq_true e
                exact kc202
              · rcases bif_or h with h | h
                · obtain ⟨e, rfl⟩ := bif_one h
                  obtain rfl := Nat.eq_of_beq_eq_true e
                  exact kc203
                · obtain ⟨e, rfl⟩ := bif_one h
                  obtain rfl := Nat.eq_of_beq_eq_true e
                  exact kc205
    · rcases bif_or h with h | h
      · rcases bif_or h with h | h
        · rcases bif_or h with h | h
          · rcases bif_or h with h | h
            · rcases bif_or h with h | h
              · obtain ⟨e, rfl⟩ := bif_one h
                obtain rfl := Nat.eq_of_beq_eq_true e
                exact kc206
              · obtain ⟨e, rfl⟩ := bif_one h
                obtain rfl := Nat.eq_of_beq_eq_true e
                exact kc207
            · rcases bif_or h with h | h
              · obtain ⟨e, rfl⟩ := bif_one h
                obtain rfl := Nat.eq_of_beq_eq_true e
                exact kc208
              · obtain ⟨e, rfl⟩ := bif_one h
                obtain rfl := Nat.eq_of_beq_eq_true e
                exact kc209
          · rcases bif_or h with h | h
            · rcases bif_or h with h | h
              · obtain ⟨e, rfl⟩ := bif_one h
                obtain rfl := Nat.eq_of_beq_eq_true e
                exact kc210
              · obtain ⟨e, rfl⟩ := bif_one h
                obtain rfl := Nat.eq_of_beq_eq_true e
                exact kc211
            · rcases bif_or h with h | h
              · obtain ⟨e, rfl⟩ := bif_one h
                obtain rfl := Nat.eq_of_beq_eq_true e
                exact kc212
              · rcases bif_or h with h | h
                · obtain ⟨e, rfl⟩ := bif_one h
                  obtain rfl := Nat.eq_of_beq_eq_true e
                  exact kc213
                · obtain ⟨e, rfl⟩ := bif_one h
                  obtain rfl := Nat.eq_of_beq_eq_true e
                  exact kc214
        · rcases bif_or h with h | h
          · rcases bif_or h with h | h
            · rcases bif_or h with h | h
              · obtain ⟨e, rfl⟩ := bif_one h
                obtain rfl := Nat.eq_of_beq_eq_true e
                exact kc215
              · obtain ⟨e, rfl⟩ := bif_one h
                obtain rfl := Nat.eq_of_beq_eq_true e
                exact kc216
            · rcases bif_or h with h | h
              · obtain ⟨e, rfl⟩ := bif_one h
                obtain rfl := Nat.eq_of_beq_eq_true e
                exact kc219
              · obtain ⟨e, rfl⟩ := bif_one h
                obtain rfl := Nat.eq_of_beq_eq_true e
                exact kc220
          · rcases bif_or h with h | h
            · rcases bif_or h with h | h
              · obtain ⟨e, rfl⟩ := bif_one h
                obtain rfl := Nat.eq_of_beq_eq_true e
                exact kc221
              · obtain ⟨e, rfl⟩ := bif_one h
                obtain rfl := Nat.eq_of_beq_eq_true e
                exact kc222
            · rcases bif_or h with h | h
              · obtain ⟨e, rfl⟩ := bif_one h
                obtain rfl := Nat.eq_of_beq_eq_true e
                exact kc223
              · rcases bif_or h with h | h
                · obtain ⟨e, rfl⟩ := bif_one h
                  obtain rfl := Nat.eq_of_beq_eq_true e
                  exact kc224
                · obtain ⟨e, rfl⟩ := bif_one h
                  obtain rfl := Nat.eq_of_beq_eq_true e
                  exact kc225
      · rcases bif_or h with h | h
        · rcases bif_or h with h | h
          · rcases bif_or h with h | h
            · rcases bif_or h with h | h
              · obtain ⟨e, rfl⟩ := bif_one h
                obtain rfl := Nat.eq_of_beq_eq_true e
                exact kc226
              · obtain ⟨e, rfl⟩ := bif_one h
                obtain rfl := Nat.eq_of_beq_eq_true e
                exact kc227
            · rcases bif_or h with h | h
              · obtain ⟨e, rfl⟩ := bif_one h
                obtain rfl := Nat.eq_of_beq_eq_true e
                exact kc228
              · obtain ⟨e, rfl⟩ := bif_one h
                obtain rfl := Nat.eq_of_beq_eq_true e
                exact kc229
          · rcases bif_or h with h | h
            · rcases bif_or h with h | h
              · obtain ⟨e, rfl⟩ := bif_one h
                obtain rfl := Nat.eq_of_beq_eq_true e
                exact kc230
              · obtain ⟨e, rfl⟩ := bif_one h
                obtain rfl := Nat.eq_of_beq_eq_true e
                exact kc231
            · rcases bif_or h with h | h
              · obtain ⟨e, rfl⟩ := bif_one h
                obtain rfl := Nat.eq_of_beq_eq_true e
                exact kc232
              · rcases bif_or h with h | h
                · obtain ⟨e, rfl⟩ := bif_one h
                  obtain rfl := Nat.eq_of_beq_eq_true e
                  exact kc233
                · obtain ⟨e, rfl⟩ := bif_one h
                  obtain rfl := Nat.eq_of_beq_eq_true e
                  exact kc234
        · rcases bif_or h with h | h
          · rcases bif_or h with h | h
            · rcases bif_or h with h | h
              · obtain ⟨e, rfl⟩ := bif_one h
                obtain rfl := Nat.eq_of_beq_eq_true e
                exact kc235
              · obtain ⟨e, rfl⟩ := bif_one h
                obtain rfl := Nat.eq_of_beq_eq_true e
                exact kc236
            · rcases bif_or h with h | h
              · obtain ⟨e, rfl⟩ := bif_one h
                obtain rfl := Nat.eq_of_beq_eq_true e
                exact kc237
              · rcases bif_or h with h | h
                · obtain ⟨e, rfl⟩ := bif_one h
                  obtain rfl := Nat.eq_of_beq_eq_true e
                  exact kc238
                · obtain ⟨e, rfl⟩ := bif_one h
                  obtain rfl := Nat.eq_of_beq_eq_true e
                  exact kc239
          · rcases bif_or h with h | h
            · rcases bif_or h with h | h
              · obtain ⟨e, rfl⟩ := bif_one h
                obtain rfl := Nat.eq_of_beq_eq_true e
                exact kc240
              · obtain ⟨e, rfl⟩ := bif_one h
                obtain rfl := Nat.eq_of_beq_eq_true e
                exact kc241
            · rcases bif_or h with h | h
              · obtain ⟨e, rfl⟩ := bif_one h
                obtain rfl := Nat.eq_of_beq_eq_true e
                exact kc242
              · rcases bif_or h with h | h
                · obtain ⟨e, rfl⟩ := bif_one h
                  obtain rfl := Nat.eq_of_beq_eq_true e
                  exact kc243
                · obtain ⟨e, rfl⟩ := bif_one h
                  obtain rfl := Nat.eq_of_beq_eq_true e
                  exact kc244
theorem own : ownKnob Tryz.prog.godebug = none := by kernel_rfl
theorem laidOk : laidOutB Tryz.prog = true := by kernel_rfl
theorem gBru : Tryz.prog.globalNamed "math/bits.deBruijn64tab" = some 1 := by kernel_rfl
theorem tBru : (Tryz.prog.globals[1]?).map (·.type) = some 251 := by kernel_rfl
theorem sizeBru : Tryz.prog.cellsOf 251 = 64 := by kernel_rfl
theorem size3 : Tryz.prog.cellsOf 3 = 1 := by kernel_rfl
theorem size4 : Tryz.prog.cellsOf 4 = 1 := by kernel_rfl
theorem size5 : Tryz.prog.cellsOf 5 = 1 := by kernel_rfl
theorem gYrs : Tryz.prog.globalNamed "gyttja/cases.allYears" = some 0 := by kernel_rfl
theorem tYrs : (Tryz.prog.globals[0]?).map (·.type) = some 77 := by kernel_rfl
theorem size77 : Tryz.prog.cellsOf 77 = 2 := by kernel_rfl
abbrev laid1 {H : Type} : List (String × DataW H) := [("math/bits.deBruijn64tab", Rows.laid_math_bits_deBruijn64tab), ("gyttja/cases.allYears", Rows.laid_gyttja_cases_allYears)]
theorem door_met (os : Os) (args : Array Value) : laidMetH Tryz.prog laid1 ((World.doorLaid Tryz.prog 400 os).forCall (fun _ _ => 0) ⟨#[], args, []⟩).memory :=
  laidMetH_of_parts3 (fuel := 8) (laidMet_of_run' 8 (by kernel_rfl) (by kernel_rfl)) (by kernel_rfl) (by kernel_rfl)
theorem gl_cases {g : Nat} {cs : List D} (hg : pg.gl g = some cs) : (g = 1 ∧ cs = bruD) ∨ (g = 0 ∧ cs = yrsD) := by
  change (bif Nat.beq g 1 then some bruD else bif Nat.beq g 0 then some yrsD else none) = some cs at hg
  cases h1 : Nat.beq g 1 with
  | true => rw [h1] at hg; exact .inl ⟨Nat.eq_of_beq_eq_true h1, (Option.some.inj hg).symm⟩
  | false =>
    rw [h1] at hg
    cases h0 : Nat.beq g 0 with
    | true => rw [h0] at hg; exact .inr ⟨Nat.eq_of_beq_eq_true h0, (Option.some.inj hg).symm⟩
    | false => rw [h0] at hg; cases hg
theorem gl_pure : ∀ g cs, pg.gl g = some cs → D.pureL cs = true := by
  intro g cs h
  rcases gl_cases h with ⟨_, rfl⟩ | ⟨_, rfl⟩ <;> rfl
theorem nums_read {H : Type} {enc : TypeId × Value → H} {P : Program} {w : World} {base : Nat} {spare : Nat → Bool} {held : Bool} {e : TypeId} {m : Nat} {k : IntKind} (he : P.underlying e = some (.int k)) :
    ∀ (cs : List Value) (xs : List (DataW H × List MemPlace)), cs.length = xs.length → (∀ i, i < xs.length → DataW.trod enc P w base spare held m e ((cs.drop i).take 1) = xs[i]?) → ∃ L : List Int, cs = L.map (.int k) ∧ xs.map (·.1) = L.map fun n => .lit (.int k n)
  | [], [], _, _ => ⟨[], rfl, rfl⟩
  | c :: cs, x :: xs, hl, h => by
    obtain ⟨L, h1, h2⟩ := nums_read he cs xs (by simpa using hl) fun i hi => by
      have := h (i + 1) (by simp; omega)
      simpa using this
    have h0 := h 0 (by simp)
    simp only [List.drop_zero, List.take_succ_cons, List.take_zero, List.getElem?_cons_zero] at h0
    obtain ⟨n, j1, j2, _⟩ := DataW.trod_int he h0
    simp only [List.cons.injEq, and_true] at j1
    subst j1
    exact ⟨n :: L, by simp [h1], by simp [h2, j2]⟩
theorem tabs_read {H : Type} {enc : TypeId × Value → H} {P : Program} {w : World} {base : Nat} {spare : Nat → Bool} {held : Bool} {t e : TypeId} {n fuel : Nat} {k : IntKind} {cs : List Value} {x : DataW H × List MemPlace} (ht : P.underlying t = some (.array n e)) (hC : P.cellsOf t = n) (he : P.underlying e = some (.int k)) (c1 : P.cellsOf e = 1)
    (h : DataW.trod enc P w base spare held fuel t cs = some x) : ∃ L : List Int, cs = L.map (.int k) ∧ x.1 = .agg (L.map fun n => .lit (.int k n)) := by
  obtain ⟨xs, m, rfl, rfl, hl, hn, hf⟩ := DataW.trod_array ht h
  rw [hC] at hl
  obtain ⟨L, h1, h2⟩ := nums_read (m := m) (enc := enc) (w := w) (base := base) (spare := spare) (held := held) he cs xs (by omega) fun i hi => by
    have := hf i (by omega)
    rw [c1, Nat.mul_one] at this; exact this
  exact ⟨L, h1, by rw [h2]⟩
theorem lits_inj {H : Type} {k : IntKind} : ∀ {L M : List Int}, (L.map fun n => (DataW.lit (.int k n) : DataW H)) = (M.map fun n => .lit (.int k n)) → L = M
  | [], [], _ => rfl
  | a :: L, b :: M, h => by
    simp only [List.map_cons, List.cons.injEq, DataW.lit.injEq, Lit.int.injEq, true_and] at h
    rw [h.1, lits_inj h.2]
theorem pair_read {H : Type} {enc : TypeId × Value → H} {P : Program} {w : World} {base : Nat} {spare : Nat → Bool} {held : Bool} {t ti : TypeId} {f0 f1 : Field} {fuel : Nat} {cs : List Value} {x : DataW H × List MemPlace} (ht : P.underlying t = some (.struct #[f0, f1])) (hC : P.cellsOf t = 2) (h0 : f0.type = ti ∧ f0.offset = 0) (h1 : f1.type = ti ∧ f1.offset = 1)
    (hi : P.underlying ti = some (.int .i64)) (c1 : P.cellsOf ti = 1) (h : DataW.trod enc P w base spare held fuel t cs = some x) : ∃ a b, cs = [.int .i64 a, .int .i64 b] ∧ x.1 = .agg [.lit (.int .i64 a), .lit (.int .i64 b)] := by
  obtain ⟨xs, n, rfl, rfl, hl, hn, hf⟩ := DataW.trod_struct ht h
  have e0 := hf 0 f0 rfl
  have e1 := hf 1 f1 rfl
  rw [h0.1, h0.2, c1] at e0
  rw [h1.1, h1.2, c1] at e1
  rw [hC] at hl
  match cs, hl with
  | [u0, u1], _ =>
    match xs, hn with
    | [x0, x1], _ =>
      obtain ⟨a, j0, k0, _⟩ := DataW.trod_int hi (show DataW.trod enc P w base spare held n ti _ = some x0 from e0)
      obtain ⟨b, j1, k1, _⟩ := DataW.trod_int hi (show DataW.trod enc P w base spare held n ti _ = some x1 from e1)
      simp at j0 j1
      subst j0 j1
      exact ⟨a, b, rfl, by simp [k0, k1]⟩
theorem words_in {W : World} (h : laidMetH Tryz.prog laid1 W) : ∀ g cs, pg.gl g = some cs → Den (ctxOf W) (.pointer (some ⟨g, 0, none⟩)) (.eref cs) := by
  intro g cs hg
  rw [MakeChecks.laidMetH_plain _ _ _ (by kernel_rfl)] at h
  obtain ⟨ps, ⟨g0, t0, cs0, f0, p0, q0, hg0, ht0, hv0, hd0, ⟨g1, t1, cs1, f1, p1, q1, hg1, ht1, hv1, hd1, _, _⟩, _⟩, _, _⟩ := h
  rcases gl_cases hg with ⟨rfl, rfl⟩ | ⟨rfl, rfl⟩
  · obtain rfl := Option.some.inj (gBru.symm.trans hg0)
    obtain rfl := Option.some.inj (tBru.symm.trans ht0)
    obtain ⟨L, j1, j2⟩ := tabs_read Tryz.underlying251 sizeBru Tryz.underlying5 size5 hd0
    have hL : L = bruN.map fun (n : Nat) => (n : Int) := by
      change DataW.agg ((bruN.map fun (n : Nat) => (n : Int)).map fun n => .lit (.int .u8 n)) = _ at j2
      exact (lits_inj (DataW.agg.inj j2)).symm
    subst hL
    refine .eref 1 0 ((bruN.map fun (n : Nat) => (n : Int)).map (.int .u8)) _ (fun j v h => ctxOf_cell ?_) ?_
    · rw [Nat.zero_add, World.var?_cell hg0 hv0 j, ← Array.getElem?_toList, j1]
      exact h
    · have e : bruD = ((bruN.map fun (n : Nat) => (n : Int)).map (.int .u8)).map D.val := by unfold bruD; rw [List.map_map, List.map_map]; rfl
      rw [e]
      exact vals_den (by decide)
  · obtain rfl := Option.some.inj (gYrs.symm.trans hg1)
    obtain rfl := Option.some.inj (tYrs.symm.trans ht1)
    obtain ⟨a, b, j1, j2⟩ := pair_read Tryz.underlying77 size77 ⟨rfl, rfl⟩ ⟨rfl, rfl⟩ Tryz.underlying3 size3 hd1
    change DataW.agg [.lit (.int .i64 (-1000000000)), .lit (.int .i64 1000000000)] = _ at j2
    simp only [DataW.agg.injEq, List.cons.injEq, DataW.lit.injEq, Lit.int.injEq, true_and, and_true] at j2
    obtain ⟨rfl, rfl⟩ := j2
    refine .eref 0 0 [.int .i64 (-1000000000), .int .i64 1000000000] _ (fun j v h => ctxOf_cell ?_) ?_
    · rw [Nat.zero_add, World.var?_cell hg1 hv1 j, ← Array.getElem?_toList, j1]
      exact h
    · exact vals_den (l := [.int .i64 (-1000000000), .int .i64 1000000000]) (by decide)
end Go.Proofs.YtlfknfknlcgfcaaGreatDoor
