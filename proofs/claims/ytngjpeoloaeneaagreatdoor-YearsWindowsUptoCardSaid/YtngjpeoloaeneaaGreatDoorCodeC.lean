/- The small code of the functions of this program, as its own reader reads them: part C. -/
import Derived.Test.YtngjpeoloaeneaaGreatDoorCodeB
namespace Go.Proofs.YtngjpeoloaeneaaGreatDoor
open Go Go.Em
set_option maxRecDepth 100000
def k169l1 : Cd :=
  .seq (.seq (.draw [vD (vM 50 11) 0,
 vD (vM 51 12) 0,
 vD (vP 52 (vb .leq 50 51)) 3,
 vD (vM 53 52) 7,
 vD (vT 53 54 (.mv (.s 4))) 15,
 vD (vT 53 55 (.mv (.s 0))) 15,
 vD (vT 53 56 (.mv (.s 1))) 15,
 vD (vT 53 57 (.ias 2 (.s 55) (.s 56))) 111,
 vD (vT 53 58 (.ld true 2 (.s 57))) 239,
 vD (vT 53 59 (.mv (.s 0))) 15,
 vD (vT 53 60 (.mv (.s 12))) 15,
 vD (vT 53 61 (.ias 2 (.s 59) (.s 60))) 1551,
 vD (vT 53 62 (.ld true 2 (.s 61))) 3599,
 ⟨⟨some (53, true), some 63, .inr (.val true (.s 54) [(.s 58), (.s 62)])⟩, some [], [], 8191, false⟩,
 vD (vT 53 64 (vc .lss 63 0)) 16383,
 vD (vP 65 (.pick (.s 53) (.s 64) (.c (.bool false)))) 32767])
 (.cond (.s 65) (.skip)
 (.exit 4)))
 (.block 5 (.region [vM 66 12,
 vP 67 (vc .sub 66 1),
 vM 12 67]))
def k169l2 : Cd :=
  .block 1 (.seq (.block 2 (.loop k169l0))
 (.seq (.block 4 (.loop k169l1))
 (.seq (.seq (.region [vM 68 11,
 vM 69 12,
 vP 70 (vb .gtr 68 69)])
 (.cond (.s 70) (.exit 0)
 (.skip)))
 (.seq (.draw [vD (vM 71 0) 0,
 vD (vM 72 11) 0,
 vD (vM 73 0) 0,
 vD (vM 74 12) 0,
 vD (vM 75 0) 0,
 vD (vM 76 12) 0,
 vD (vI 77 2 75 76) 48,
 vD (vP 78 (.ld true 2 (.s 77))) 112,
 vD (vM 79 0) 0,
 vD (vM 80 11) 0,
 vD (vI 81 2 79 80) 768,
 vD (vP 82 (.ld true 2 (.s 81))) 1792,
 vD (vI 83 2 71 72) 4083,
 ⟨⟨none, none, .inl (.st 2 (.s 83) (.s 78))⟩, (some [.at 0]), [], 8179, false⟩,
 vD (vI 84 2 73 74) 16383,
 ⟨⟨none, none, .inl (.st 2 (.s 84) (.s 82))⟩, (some [.at 0]), [], 32767, false⟩])
 (.seq (.region [vM 85 11,
 vP 86 (vc .add 85 1),
 vM 11 86])
 (.region [vM 87 12,
 vP 88 (vc .sub 87 1),
 vM 12 88]))))))
def k169 : Cd :=
  .seq (.region [vP 10 (.mv (vi 0))])
 (.seq (.draw [vD (vM 13 0) 0,
 vD (vM 14 1) 0,
 vD (vM 15 0) 0,
 vD (vM 16 3) 0,
 vD (vM 17 0) 0,
 vD (vM 18 3) 0,
 vD (vI 19 2 17 18) 48,
 vD (vP 20 (.ld true 2 (.s 19))) 112,
 vD (vM 21 0) 0,
 vD (vM 22 1) 0,
 vD (vI 23 2 21 22) 768,
 vD (vP 24 (.ld true 2 (.s 23))) 1792,
 vD (vI 25 2 13 14) 4083,
 ⟨⟨none, none, .inl (.st 2 (.s 25) (.s 20))⟩, (some [.at 0]), [], 8179, false⟩,
 vD (vI 26 2 15 16) 16383,
 ⟨⟨none, none, .inl (.st 2 (.s 26) (.s 24))⟩, (some [.at 0]), [], 32767, false⟩])
 (.seq (.region [vM 27 1,
 vP 28 (vc .add 27 1),
 vM 29 2,
 vP 30 (vc .sub 29 1),
 vM 11 28,
 vM 12 30])
 (.seq (.block 0 (.loop k169l2))
 (.seq (.region [vM 89 11,
 vM 10 89])
 (.ret)))))
def k170l0 : Cd :=
  .seq (.seq (.draw [vD (vM 32 12) 0,
 vD (vM 33 13) 0,
 vD (vP 34 (vb .leq 32 33)) 3,
 vD (vM 35 34) 7,
 vD (vT 35 36 (.mv (.s 4))) 15,
 vD (vT 35 37 (.mv (.s 0))) 15,
 vD (vT 35 38 (.mv (.s 12))) 15,
 vD (vT 35 39 (.ias 2 (.s 37) (.s 38))) 111,
 vD (vT 35 40 (.ld true 2 (.s 39))) 239,
 vD (vT 35 41 (.mv (.s 0))) 15,
 vD (vT 35 42 (.mv (.s 1))) 15,
 vD (vT 35 43 (.ias 2 (.s 41) (.s 42))) 1551,
 vD (vT 35 44 (.ld true 2 (.s 43))) 3599,
 ⟨⟨some (35, true), some 45, .inr (.val true (.s 36) [(.s 40), (.s 44)])⟩, some [], [], 8191, false⟩,
 vD (vT 35 46 (vc .lss 45 0)) 16383,
 vD (vP 47 (.pick (.s 35) (.s 46) (.c (.bool false)))) 32767])
 (.cond (.s 47) (.skip)
 (.exit 0)))
 (.block 1 (.region [vM 48 12,
 vP 49 (vc .add 48 1),
 vM 12 49]))
def k170l1 : Cd :=
  .seq (.seq (.draw [vD (vM 50 12) 0,
 vD (vM 51 13) 0,
 vD (vP 52 (vb .leq 50 51)) 3,
 vD (vM 53 52) 7,
 vD (vT 53 54 (.mv (.s 4))) 15,
 vD (vT 53 55 (.mv (.s 0))) 15,
 vD (vT 53 56 (.mv (.s 13))) 15,
 vD (vT 53 57 (.ias 2 (.s 55) (.s 56))) 111,
 vD (vT 53 58 (.ld true 2 (.s 57))) 239,
 vD (vT 53 59 (.mv (.s 0))) 15,
 vD (vT 53 60 (.mv (.s 1))) 15,
 vD (vT 53 61 (.ias 2 (.s 59) (.s 60))) 1551,
 vD (vT 53 62 (.ld true 2 (.s 61))) 3599,
 ⟨⟨some (53, true), some 63, .inr (.val true (.s 54) [(.s 58), (.s 62)])⟩, some [], [], 8191, false⟩,
 vD (vT 53 64 (vc .lss 63 0)) 16383,
 vD (vT 53 65 (.not (.s 64))) 32767,
 vD (vP 66 (.pick (.s 53) (.s 65) (.c (.bool false)))) 65535])
 (.cond (.s 66) (.skip)
 (.exit 2)))
 (.block 3 (.region [vM 67 13,
 vP 68 (vc .sub 67 1),
 vM 13 68]))
def k170l2 : Cd :=
  .seq (.seq (.draw [vD (vM 105 12) 0,
 vD (vM 106 13) 0,
 vD (vP 107 (vb .leq 105 106)) 3,
 vD (vM 108 107) 7,
 vD (vT 108 109 (.mv (.s 4))) 15,
 vD (vT 108 110 (.mv (.s 0))) 15,
 vD (vT 108 111 (.mv (.s 12))) 15,
 vD (vT 108 112 (.ias 2 (.s 110) (.s 111))) 111,
 vD (vT 108 113 (.ld true 2 (.s 112))) 239,
 vD (vT 108 114 (.mv (.s 0))) 15,
 vD (vT 108 115 (.mv (.s 1))) 15,
 vD (vT 108 116 (.ias 2 (.s 114) (.s 115))) 1551,
 vD (vT 108 117 (.ld true 2 (.s 116))) 3599,
 ⟨⟨some (108, true), some 118, .inr (.val true (.s 109) [(.s 113), (.s 117)])⟩, some [], [], 8191, false⟩,
 vD (vT 108 119 (vc .lss 118 0)) 16383,
 vD (vP 120 (.pick (.s 108) (.s 119) (.c (.bool false)))) 32767])
 (.cond (.s 120) (.skip)
 (.exit 6)))
 (.block 7 (.region [vM 121 12,
 vP 122 (vc .add 121 1),
 vM 12 122]))
def k170l3 : Cd :=
  .seq (.seq (.draw [vD (vM 123 12) 0,
 vD (vM 124 13) 0,
 vD (vP 125 (vb .leq 123 124)) 3,
 vD (vM 126 125) 7,
 vD (vT 126 127 (.mv (.s 4))) 15,
 vD (vT 126 128 (.mv (.s 0))) 15,
 vD (vT 126 129 (.mv (.s 13))) 15,
 vD (vT 126 130 (.ias 2 (.s 128) (.s 129))) 111,
 vD (vT 126 131 (.ld true 2 (.s 130))) 239,
 vD (vT 126 132 (.mv (.s 0))) 15,
 vD (vT 126 133 (.mv (.s 1))) 15,
 vD (vT 126 134 (.ias 2 (.s 132) (.s 133))) 1551,
 vD (vT 126 135 (.ld true 2 (.s 134))) 3599,
 ⟨⟨some (126, true), some 136, .inr (.val true (.s 127) [(.s 131), (.s 135)])⟩, some [], [], 8191, false⟩,
 vD (vT 126 137 (vc .lss 136 0)) 16383,
 vD (vT 126 138 (.not (.s 137))) 32767,
 vD (vP 139 (.pick (.s 126) (.s 138) (.c (.bool false)))) 65535])
 (.cond (.s 139) (.skip)
 (.exit 8)))
 (.block 9 (.region [vM 140 13,
 vP 141 (vc .sub 140 1),
 vM 13 141]))
def k170l4 : Cd :=
  .block 5 (.seq (.block 6 (.loop k170l2))
 (.seq (.block 8 (.loop k170l3))
 (.seq (.seq (.region [vM 142 12,
 vM 143 13,
 vP 144 (vb .gtr 142 143)])
 (.cond (.s 144) (.exit 4)
 (.skip)))
 (.seq (.draw [vD (vM 145 0) 0,
 vD (vM 146 12) 0,
 vD (vM 147 0) 0,
 vD (vM 148 13) 0,
 vD (vM 149 0) 0,
 vD (vM 150 13) 0,
 vD (vI 151 2 149 150) 48,
 vD (vP 152 (.ld true 2 (.s 151))) 112,
 vD (vM 153 0) 0,
 vD (vM 154 12) 0,
 vD (vI 155 2 153 154) 768,
 vD (vP 156 (.ld true 2 (.s 155))) 1792,
 vD (vI 157 2 145 146) 4083,
 ⟨⟨none, none, .inl (.st 2 (.s 157) (.s 152))⟩, (some [.at 0]), [], 8179, false⟩,
 vD (vI 158 2 147 148) 16383,
 ⟨⟨none, none, .inl (.st 2 (.s 158) (.s 156))⟩, (some [.at 0]), [], 32767, false⟩])
 (.seq (.region [vM 159 12,
 vP 160 (vc .add 159 1),
 vM 12 160])
 (.region [vM 161 13,
 vP 162 (vc .sub 161 1),
 vM 13 162]))))))
def k170 : Cd :=
  .seq (.region [vP 10 (.mv (vi 0)),
 vP 11 (.mv (.c (.bool false)))])
 (.seq (.draw [vD (vM 14 0) 0,
 vD (vM 15 1) 0,
 vD (vM 16 0) 0,
 vD (vM 17 3) 0,
 vD (vM 18 0) 0,
 vD (vM 19 3) 0,
 vD (vI 20 2 18 19) 48,
 vD (vP 21 (.ld true 2 (.s 20))) 112,
 vD (vM 22 0) 0,
 vD (vM 23 1) 0,
 vD (vI 24 2 22 23) 768,
 vD (vP 25 (.ld true 2 (.s 24))) 1792,
 vD (vI 26 2 14 15) 4083,
 ⟨⟨none, none, .inl (.st 2 (.s 26) (.s 21))⟩, (some [.at 0]), [], 8179, false⟩,
 vD (vI 27 2 16 17) 16383,
 ⟨⟨none, none, .inl (.st 2 (.s 27) (.s 25))⟩, (some [.at 0]), [], 32767, false⟩])
 (.seq (.region [vM 28 1,
 vP 29 (vc .add 28 1),
 vM 30 2,
 vP 31 (vc .sub 30 1),
 vM 12 29,
 vM 13 31])
 (.seq (.block 0 (.loop k170l0))
 (.seq (.block 2 (.loop k170l1))
 (.seq (.seq (.region [vM 69 12,
 vM 70 13,
 vP 71 (vb .gtr 69 70)])
 (.cond (.s 71) (.seq (.draw [vD (vM 72 0) 0,
 vD (vM 73 13) 0,
 vD (vM 74 0) 0,
 vD (vM 75 1) 0,
 vD (vM 76 0) 0,
 vD (vM 77 1) 0,
 vD (vI 78 2 76 77) 48,
 vD (vP 79 (.ld true 2 (.s 78))) 112,
 vD (vM 80 0) 0,
 vD (vM 81 13) 0,
 vD (vI 82 2 80 81) 768,
 vD (vP 83 (.ld true 2 (.s 82))) 1792,
 vD (vI 84 2 72 73) 4083,
 ⟨⟨none, none, .inl (.st 2 (.s 84) (.s 79))⟩, (some [.at 0]), [], 8179, false⟩,
 vD (vI 85 2 74 75) 16383,
 ⟨⟨none, none, .inl (.st 2 (.s 85) (.s 83))⟩, (some [.at 0]), [], 32767, false⟩])
 (.seq (.region [vM 86 13,
 vM 10 86,
 vP 11 (.mv (.c (.bool true)))])
 (.ret)))
 (.skip)))
 (.seq (.draw [vD (vM 87 0) 0,
 vD (vM 88 12) 0,
 vD (vM 89 0) 0,
 vD (vM 90 13) 0,
 vD (vM 91 0) 0,
 vD (vM 92 13) 0,
 vD (vI 93 2 91 92) 48,
 vD (vP 94 (.ld true 2 (.s 93))) 112,
 vD (vM 95 0) 0,
 vD (vM 96 12) 0,
 vD (vI 97 2 95 96) 768,
 vD (vP 98 (.ld true 2 (.s 97))) 1792,
 vD (vI 99 2 87 88) 4083,
 ⟨⟨none, none, .inl (.st 2 (.s 99) (.s 94))⟩, (some [.at 0]), [], 8179, false⟩,
 vD (vI 100 2 89 90) 16383,
 ⟨⟨none, none, .inl (.st 2 (.s 100) (.s 98))⟩, (some [.at 0]), [], 32767, false⟩])
 (.seq (.region [vM 101 12,
 vP 102 (vc .add 101 1),
 vM 12 102])
 (.seq (.region [vM 103 13,
 vP 104 (vc .sub 103 1),
 vM 13 104])
 (.seq (.block 4 (.loop k170l4))
 (.seq (.draw [vD (vM 163 0) 0,
 vD (vM 164 13) 0,
 vD (vM 165 0) 0,
 vD (vM 166 1) 0,
 vD (vM 167 0) 0,
 vD (vM 168 1) 0,
 vD (vI 169 2 167 168) 48,
 vD (vP 170 (.ld true 2 (.s 169))) 112,
 vD (vM 171 0) 0,
 vD (vM 172 13) 0,
 vD (vI 173 2 171 172) 768,
 vD (vP 174 (.ld true 2 (.s 173))) 1792,
 vD (vI 175 2 163 164) 4083,
 ⟨⟨none, none, .inl (.st 2 (.s 175) (.s 170))⟩, (some [.at 0]), [], 8179, false⟩,
 vD (vI 176 2 165 166) 16383,
 ⟨⟨none, none, .inl (.st 2 (.s 176) (.s 174))⟩, (some [.at 0]), [], 32767, false⟩])
 (.seq (.region [vM 177 13,
 vM 10 177,
 vP 11 (.mv (.c (.bool false)))])
 (.ret))))))))))))
def k171 : Cd :=
  .seq (.region [vP 4 (.mv (.c (.bool false)))])
 (.seq (.region [vM 5 0,
 vN 6 76 [(.s 5)],
 vM 7 6,
 vT 7 8 (.mv (.s 1)),
 ⟨some (7, true), some 9, .inr (.fn 76 [(.s 8)])⟩,
 vT 7 10 (.not (.s 9)),
 vP 11 (.pick (.s 7) (.s 10) (.c (.bool false))),
 vM 12 11,
 vU 12 13 (.mv (.s 0)),
 vU 12 14 (.mv (.s 1)),
 vU 12 15 (vb .lss 13 14),
 vP 16 (.pick (.s 12) (.c (.bool true)) (.s 15)),
 vM 4 16])
 (.ret))
def k172 : Cd :=
  .seq (.region [vP 2 (.mv (.c (.bool false)))])
 (.seq (.region [vM 3 0,
 vM 4 0,
 vP 5 (vb .neq 3 4),
 vM 2 5])
 (.ret))
def k173l0 : Cd :=
  .seq (.seq (.region [vM 7 2,
 vM 8 3,
 vP 9 (vb .lss 7 8)])
 (.cond (.s 9) (.skip)
 (.exit 0)))
 (.seq (.block 1 (.draw [vD (vM 14 0) 0,
 vD (vM 15 2) 0,
 vD (vM 16 0) 0,
 vD (vM 17 3) 0,
 vD (vM 18 0) 0,
 vD (vM 19 3) 0,
 vD (vI 20 2 18 19) 48,
 vD (vP 21 (.ld true 2 (.s 20))) 112,
 vD (vM 22 0) 0,
 vD (vM 23 2) 0,
 vD (vI 24 2 22 23) 768,
 vD (vP 25 (.ld true 2 (.s 24))) 1792,
 vD (vI 26 2 14 15) 4083,
 ⟨⟨none, none, .inl (.st 2 (.s 26) (.s 21))⟩, (some [.at 0]), [], 8179, false⟩,
 vD (vI 27 2 16 17) 16383,
 ⟨⟨none, none, .inl (.st 2 (.s 27) (.s 25))⟩, (some [.at 0]), [], 32767, false⟩]))
 (.region [vM 10 2,
 vP 11 (vc .add 10 1),
 vM 12 3,
 vP 13 (vc .sub 12 1),
 vM 2 11,
 vM 3 13]))
def k173 : Cd :=
  .seq (.region [vM 4 0,
 vP 5 (.len (.s 4)),
 vP 6 (vc .sub 5 1),
 vP 2 (.mv (vi 0)),
 vM 3 6])
 (.block 0 (.loop k173l0))
def k174l0 : Cd :=
  .block 1 (.seq (.region [vM 13 10,
 vP 14 (.bin .mul (vi 2) (.s 13)),
 vP 15 (vc .add 14 1),
 vM 11 15])
 (.seq (.seq (.region [vM 16 11,
 vM 17 2,
 vP 18 (vb .geq 16 17)])
 (.cond (.s 18) (.exit 0)
 (.skip)))
 (.seq (.seq (.draw [vD (vM 19 11) 0,
 vD (vP 20 (vc .add 19 1)) 1,
 vD (vM 21 2) 0,
 vD (vP 22 (vb .lss 20 21)) 7,
 vD (vM 23 22) 15,
 vD (vT 23 24 (.mv (.s 4))) 31,
 vD (vT 23 25 (.mv (.s 0))) 31,
 vD (vT 23 26 (.mv (.s 3))) 31,
 vD (vT 23 27 (.mv (.s 11))) 31,
 vD (vT 23 28 (vb .add 26 27)) 415,
 vD (vT 23 29 (.ias 2 (.s 25) (.s 28))) 991,
 vD (vT 23 30 (.ld true 2 (.s 29))) 2015,
 vD (vT 23 31 (.mv (.s 0))) 31,
 vD (vT 23 32 (.mv (.s 3))) 31,
 vD (vT 23 33 (.mv (.s 11))) 31,
 vD (vT 23 34 (vb .add 32 33)) 24607,
 vD (vT 23 35 (vc .add 34 1)) 57375,
 vD (vT 23 36 (.ias 2 (.s 31) (.s 35))) 127007,
 vD (vT 23 37 (.ld true 2 (.s 36))) 258079,
 ⟨⟨some (23, true), some 38, .inr (.val true (.s 24) [(.s 30), (.s 37)])⟩, some [], [], 524287, false⟩,
 vD (vT 23 39 (vc .lss 38 0)) 1048575,
 vD (vP 40 (.pick (.s 23) (.s 39) (.c (.bool false)))) 2097151])
 (.cond (.s 40) (.region [vM 41 11,
 vP 42 (vc .add 41 1),
 vM 11 42])
 (.skip)))
 (.seq (.seq (.draw [vD (vM 43 4) 0,
 vD (vM 44 0) 0,
 vD (vM 45 3) 0,
 vD (vM 46 10) 0,
 vD (vP 47 (vb .add 45 46)) 12,
 vD (vI 48 2 44 47) 30,
 vD (vP 49 (.ld true 2 (.s 48))) 62,
 vD (vM 50 0) 0,
 vD (vM 51 3) 0,
 vD (vM 52 11) 0,
 vD (vP 53 (vb .add 51 52)) 768,
 vD (vI 54 2 50 53) 1920,
 vD (vP 55 (.ld true 2 (.s 54))) 3968,
 ⟨⟨none, some 56, .inr (.val false (.s 43) [(.s 49), (.s 55)])⟩, some [], [], 8191, false⟩,
 vD (vP 57 (vc .lss 56 0)) 16383,
 vD (vP 58 (.not (.s 57))) 32767])
 (.cond (.s 58) (.ret)
 (.skip)))
 (.seq (.draw [vD (vM 59 0) 0,
 vD (vM 60 3) 0,
 vD (vM 61 10) 0,
 vD (vP 62 (vb .add 60 61)) 6,
 vD (vM 63 0) 0,
 vD (vM 64 3) 0,
 vD (vM 65 11) 0,
 vD (vP 66 (vb .add 64 65)) 96,
 vD (vM 67 0) 0,
 vD (vM 68 3) 0,
 vD (vM 69 11) 0,
 vD (vP 70 (vb .add 68 69)) 1536,
 vD (vI 71 2 67 70) 3840,
 vD (vP 72 (.ld true 2 (.s 71))) 7936,
 vD (vM 73 0) 0,
 vD (vM 74 3) 0,
 vD (vM 75 10) 0,
 vD (vP 76 (vb .add 74 75)) 98304,
 vD (vI 77 2 73 76) 245760,
 vD (vP 78 (.ld true 2 (.s 77))) 507904,
 vD (vI 79 2 59 62) 1048335,
 ⟨⟨none, none, .inl (.st 2 (.s 79) (.s 72))⟩, (some [.at 0]), [], 2096911, false⟩,
 vD (vI 80 2 63 66) 4194303,
 ⟨⟨none, none, .inl (.st 2 (.s 80) (.s 78))⟩, (some [.at 0]), [], 8388607, false⟩])
 (.region [vM 81 11,
 vM 10 81]))))))
def k174 : Cd :=
  .seq (.region [vM 12 1,
 vM 10 12])
 (.block 0 (.loop k174l0))
def k175 : Cd :=
  .seq (.region [vP 8 (.mv (vi 0))])
 (.seq (.region [vM 9 0,
 vM 10 1,
 vP 11 (vc .sub 10 1),
 vM 12 1,
 vM 13 1,
 vP 14 (vc .add 13 1),
 vM 15 2,
 vM 16 3,
 vN 17 176 [(.s 9), (.s 11), (.s 12), (.s 14), (.s 15), (.s 16)],
 vM 8 17])
 (.ret))
def k176 : Cd :=
  .seq (.region [vP 12 (.mv (vi 0))])
 (.seq (.region [vM 14 0,
 vM 15 1,
 vM 16 2,
 vM 17 4,
 vM 18 5,
 vN 19 177 [(.s 14), (.s 15), (.s 16), (.s 17), (.s 18)],
 vM 13 19,
 vP 20 (.ex (.s 13) 0),
 vP 21 (.ex (.s 13) 1),
 vM 1 20,
 vM 2 21])
 (.seq (.region [vM 23 0,
 vM 24 2,
 vM 25 3,
 vM 26 4,
 vM 27 5,
 vN 28 177 [(.s 23), (.s 24), (.s 25), (.s 26), (.s 27)],
 vM 22 28,
 vP 29 (.ex (.s 22) 0),
 vP 30 (.ex (.s 22) 1),
 vM 2 29,
 vM 3 30])
 (.seq (.region [vM 32 0,
 vM 33 1,
 vM 34 2,
 vM 35 4,
 vM 36 5,
 vN 37 177 [(.s 32), (.s 33), (.s 34), (.s 35), (.s 36)],
 vM 31 37,
 vP 38 (.ex (.s 31) 0),
 vP 39 (.ex (.s 31) 1),
 vM 1 38,
 vM 2 39])
 (.seq (.region [vM 40 2,
 vM 12 40])
 (.ret)))))
def k177 : Cd :=
  .seq (.region [vP 10 (.mv (vi 0)),
 vP 11 (.mv (vi 0))])
 (.seq (.seq (.draw [vD (vM 12 4) 0,
 vD (vM 13 0) 0,
 vD (vM 14 2) 0,
 vD (vI 15 2 13 14) 6,
 vD (vP 16 (.ld true 2 (.s 15))) 14,
 vD (vM 17 0) 0,
 vD (vM 18 1) 0,
 vD (vI 19 2 17 18) 96,
 vD (vP 20 (.ld true 2 (.s 19))) 224,
 ⟨⟨none, some 21, .inr (.val false (.s 12) [(.s 16), (.s 20)])⟩, some [], [], 511, false⟩,
 vD (vP 22 (vc .lss 21 0)) 1023])
 (.cond (.s 22) (.seq (.region [vM 23 3,
 vP 24 (.nc (.s 23)),
 vL 25 1 24,
 vP 26 (vc .add 25 1),
 vP 27 (.nc (.s 23)),
 ⟨none, none, .inl (.st 1 (.s 27) (.s 26))⟩])
 (.seq (.region [vM 28 2,
 vM 29 1,
 vM 10 28,
 vM 11 29])
 (.ret)))
 (.skip)))
 (.seq (.region [vM 30 1,
 vM 31 2,
 vM 10 30,
 vM 11 31])
 (.ret)))
end Go.Proofs.YtngjpeoloaeneaaGreatDoor
