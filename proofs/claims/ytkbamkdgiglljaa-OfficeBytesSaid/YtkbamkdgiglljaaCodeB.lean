/- The small code of the functions of this program, as its own reader reads them: part B. -/
import Derived.Test.YtkbamkdgiglljaaCodeA
namespace Go.Proofs.Ytkbamkdgiglljaa
open Go Go.Em
set_option maxRecDepth 100000
def k83 : Cd :=
  .seq (.region [vP 10 (.mv (vi 0)),
 vP 11 (.mv (.c (.bool false)))])
 (.seq (.draw [vD (vM 14 0) 0,
 vD (vM 15 1) 0,
 vD (vM 16 0) 0,
 vD (vM 17 3) 0,
 vD (vM 18 0) 0,
 vD (vM 19 3) 0,
 vD (vI 20 8 18 19) 48,
 vD (vP 21 (.ld true 8 (.s 20))) 112,
 vD (vM 22 0) 0,
 vD (vM 23 1) 0,
 vD (vI 24 8 22 23) 768,
 vD (vP 25 (.ld true 8 (.s 24))) 1792,
 vD (vI 26 8 14 15) 4083,
 ⟨⟨none, none, .inl (.st 8 (.s 26) (.s 21))⟩, (some [.at 0]), [], 8179, false⟩,
 vD (vI 27 8 16 17) 16383,
 ⟨⟨none, none, .inl (.st 8 (.s 27) (.s 25))⟩, (some [.at 0]), [], 32767, false⟩])
 (.seq (.region [vM 28 1,
 vP 29 (vc .add 28 1),
 vM 30 2,
 vP 31 (vc .sub 30 1),
 vM 12 29,
 vM 13 31])
 (.seq (.block 0 (.loop k83l0))
 (.seq (.block 2 (.loop k83l1))
 (.seq (.seq (.region [vM 69 12,
 vM 70 13,
 vP 71 (vb .gtr 69 70)])
 (.cond (.s 71) (.seq (.draw [vD (vM 72 0) 0,
 vD (vM 73 13) 0,
 vD (vM 74 0) 0,
 vD (vM 75 1) 0,
 vD (vM 76 0) 0,
 vD (vM 77 1) 0,
 vD (vI 78 8 76 77) 48,
 vD (vP 79 (.ld true 8 (.s 78))) 112,
 vD (vM 80 0) 0,
 vD (vM 81 13) 0,
 vD (vI 82 8 80 81) 768,
 vD (vP 83 (.ld true 8 (.s 82))) 1792,
 vD (vI 84 8 72 73) 4083,
 ⟨⟨none, none, .inl (.st 8 (.s 84) (.s 79))⟩, (some [.at 0]), [], 8179, false⟩,
 vD (vI 85 8 74 75) 16383,
 ⟨⟨none, none, .inl (.st 8 (.s 85) (.s 83))⟩, (some [.at 0]), [], 32767, false⟩])
 (.seq (.region [vM 86 13,
 vM 10 86,
 vP 11 (.mv (.c (.bool true)))])
 (.ret)))
 (.skip)))
 (.seq (.draw [vD (vM 87 0) 0,
 vD (vM 88 12) 0,
 vD (vM 89 0) 0,
 vD (vM 90 13) 0,
 vD (vM 91 0) 0,
 vD (vM 92 13) 0,
 vD (vI 93 8 91 92) 48,
 vD (vP 94 (.ld true 8 (.s 93))) 112,
 vD (vM 95 0) 0,
 vD (vM 96 12) 0,
 vD (vI 97 8 95 96) 768,
 vD (vP 98 (.ld true 8 (.s 97))) 1792,
 vD (vI 99 8 87 88) 4083,
 ⟨⟨none, none, .inl (.st 8 (.s 99) (.s 94))⟩, (some [.at 0]), [], 8179, false⟩,
 vD (vI 100 8 89 90) 16383,
 ⟨⟨none, none, .inl (.st 8 (.s 100) (.s 98))⟩, (some [.at 0]), [], 32767, false⟩])
 (.seq (.region [vM 101 12,
 vP 102 (vc .add 101 1),
 vM 12 102])
 (.seq (.region [vM 103 13,
 vP 104 (vc .sub 103 1),
 vM 13 104])
 (.seq (.block 4 (.loop k83l4))
 (.seq (.draw [vD (vM 163 0) 0,
 vD (vM 164 13) 0,
 vD (vM 165 0) 0,
 vD (vM 166 1) 0,
 vD (vM 167 0) 0,
 vD (vM 168 1) 0,
 vD (vI 169 8 167 168) 48,
 vD (vP 170 (.ld true 8 (.s 169))) 112,
 vD (vM 171 0) 0,
 vD (vM 172 13) 0,
 vD (vI 173 8 171 172) 768,
 vD (vP 174 (.ld true 8 (.s 173))) 1792,
 vD (vI 175 8 163 164) 4083,
 ⟨⟨none, none, .inl (.st 8 (.s 175) (.s 170))⟩, (some [.at 0]), [], 8179, false⟩,
 vD (vI 176 8 165 166) 16383,
 ⟨⟨none, none, .inl (.st 8 (.s 176) (.s 174))⟩, (some [.at 0]), [], 32767, false⟩])
 (.seq (.region [vM 177 13,
 vM 10 177,
 vP 11 (.mv (.c (.bool false)))])
 (.ret))))))))))))
def k84 : Cd :=
  .seq (.region [vP 2 (.mv (vi 0))])
 (.seq (.seq (.region [vM 3 0,
 vP 4 (.bin .geq (.s 3) (.c (.int .u32 65536)))])
 (.cond (.s 4) (.seq (.region [vM 5 0,
 vP 6 (.bin .shr (.s 5) (.c (.int .u64 16))),
 vM 0 6])
 (.region [vP 2 (.mv (vi 16))]))
 (.skip)))
 (.seq (.seq (.region [vM 7 0,
 vP 8 (.bin .geq (.s 7) (.c (.int .u32 256)))])
 (.cond (.s 8) (.seq (.region [vM 9 0,
 vP 10 (.bin .shr (.s 9) (.c (.int .u64 8))),
 vM 0 10])
 (.region [vM 11 2,
 vP 12 (vc .add 11 8),
 vM 2 12]))
 (.skip)))
 (.seq (.region [vM 13 2,
 vM 14 0,
 vP 15 (.cvi .u8 (.s 14)),
 ⟨none, some 16, .inl (.ixs (.c (.string ⟨#[0, 1, 2, 2, 3, 3, 3, 3, 4, 4, 4, 4, 4, 4, 4, 4, 5, 5, 5, 5, 5, 5, 5, 5, 5, 5, 5, 5, 5, 5, 5, 5, 6, 6, 6, 6, 6, 6, 6, 6, 6, 6, 6, 6, 6, 6, 6, 6, 6, 6, 6, 6, 6, 6, 6, 6, 6, 6, 6, 6, 6, 6, 6, 6, 7, 7, 7, 7, 7, 7, 7, 7, 7, 7, 7, 7, 7, 7, 7, 7, 7, 7, 7, 7, 7, 7, 7, 7, 7, 7, 7, 7, 7, 7, 7, 7, 7, 7, 7, 7, 7, 7, 7, 7, 7, 7, 7, 7, 7, 7, 7, 7, 7, 7, 7, 7, 7, 7, 7, 7, 7, 7, 7, 7, 7, 7, 7, 7, 8, 8, 8, 8, 8, 8, 8, 8, 8, 8, 8, 8, 8, 8, 8, 8, 8, 8, 8, 8, 8, 8, 8, 8, 8, 8, 8, 8, 8, 8, 8, 8, 8, 8, 8, 8, 8, 8, 8, 8, 8, 8, 8, 8, 8, 8, 8, 8, 8, 8, 8, 8, 8, 8, 8, 8, 8, 8, 8, 8, 8, 8, 8, 8, 8, 8, 8, 8, 8, 8, 8, 8, 8, 8, 8, 8, 8, 8, 8, 8, 8, 8, 8, 8, 8, 8, 8, 8, 8, 8, 8, 8, 8, 8, 8, 8, 8, 8, 8, 8, 8, 8, 8, 8, 8, 8, 8, 8, 8, 8, 8, 8, 8, 8, 8, 8, 8, 8, 8, 8, 8, 8, 8, 8, 8, 8, 8, 8]⟩)) (.s 15))⟩,
 vP 17 (.cvi .i64 (.s 16)),
 vP 18 (vb .add 13 17),
 vM 2 18])
 (.ret))))
def k85 : Cd :=
  .seq (.region [vP 2 (.mv (vi 0))])
 (.seq (.seq (.region [vM 3 0,
 vP 4 (.bin .geq (.s 3) (.c (.int .u64 4294967296)))])
 (.cond (.s 4) (.seq (.region [vM 5 0,
 vP 6 (.bin .shr (.s 5) (.c (.int .u64 32))),
 vM 0 6])
 (.region [vP 2 (.mv (vi 32))]))
 (.skip)))
 (.seq (.seq (.region [vM 7 0,
 vP 8 (.bin .geq (.s 7) (.c (.int .u64 65536)))])
 (.cond (.s 8) (.seq (.region [vM 9 0,
 vP 10 (.bin .shr (.s 9) (.c (.int .u64 16))),
 vM 0 10])
 (.region [vM 11 2,
 vP 12 (vc .add 11 16),
 vM 2 12]))
 (.skip)))
 (.seq (.seq (.region [vM 13 0,
 vP 14 (.bin .geq (.s 13) (.c (.int .u64 256)))])
 (.cond (.s 14) (.seq (.region [vM 15 0,
 vP 16 (.bin .shr (.s 15) (.c (.int .u64 8))),
 vM 0 16])
 (.region [vM 17 2,
 vP 18 (vc .add 17 8),
 vM 2 18]))
 (.skip)))
 (.seq (.region [vM 19 2,
 vM 20 0,
 vP 21 (.cvi .u8 (.s 20)),
 ⟨none, some 22, .inl (.ixs (.c (.string ⟨#[0, 1, 2, 2, 3, 3, 3, 3, 4, 4, 4, 4, 4, 4, 4, 4, 5, 5, 5, 5, 5, 5, 5, 5, 5, 5, 5, 5, 5, 5, 5, 5, 6, 6, 6, 6, 6, 6, 6, 6, 6, 6, 6, 6, 6, 6, 6, 6, 6, 6, 6, 6, 6, 6, 6, 6, 6, 6, 6, 6, 6, 6, 6, 6, 7, 7, 7, 7, 7, 7, 7, 7, 7, 7, 7, 7, 7, 7, 7, 7, 7, 7, 7, 7, 7, 7, 7, 7, 7, 7, 7, 7, 7, 7, 7, 7, 7, 7, 7, 7, 7, 7, 7, 7, 7, 7, 7, 7, 7, 7, 7, 7, 7, 7, 7, 7, 7, 7, 7, 7, 7, 7, 7, 7, 7, 7, 7, 7, 8, 8, 8, 8, 8, 8, 8, 8, 8, 8, 8, 8, 8, 8, 8, 8, 8, 8, 8, 8, 8, 8, 8, 8, 8, 8, 8, 8, 8, 8, 8, 8, 8, 8, 8, 8, 8, 8, 8, 8, 8, 8, 8, 8, 8, 8, 8, 8, 8, 8, 8, 8, 8, 8, 8, 8, 8, 8, 8, 8, 8, 8, 8, 8, 8, 8, 8, 8, 8, 8, 8, 8, 8, 8, 8, 8, 8, 8, 8, 8, 8, 8, 8, 8, 8, 8, 8, 8, 8, 8, 8, 8, 8, 8, 8, 8, 8, 8, 8, 8, 8, 8, 8, 8, 8, 8, 8, 8, 8, 8, 8, 8, 8, 8, 8, 8, 8, 8, 8, 8, 8, 8, 8, 8, 8, 8, 8, 8]⟩)) (.s 21))⟩,
 vP 23 (.cvi .i64 (.s 22)),
 vP 24 (vb .add 19 23),
 vM 2 24])
 (.ret)))))
def k86l0 : Cd :=
  .block 1 (.seq (.region [vM 13 10,
 vP 14 (.bin .mul (vi 2) (.s 13)),
 vP 15 (vc .add 14 1),
 vM 11 15])
 (.seq (.seq (.region [vM 16 11,
 vM 17 2,
 vP 18 (vb .geq 16 17)])
 (.cond (.s 18) (.exit 0)
 (.skip)))
 (.seq (.seq (.draw [vD (vM 19 11) 0,
 vD (vP 20 (vc .add 19 1)) 1,
 vD (vM 21 2) 0,
 vD (vP 22 (vb .lss 20 21)) 7,
 vD (vM 23 22) 15,
 vD (vT 23 24 (.mv (.s 4))) 31,
 vD (vT 23 25 (.mv (.s 0))) 31,
 vD (vT 23 26 (.mv (.s 3))) 31,
 vD (vT 23 27 (.mv (.s 11))) 31,
 vD (vT 23 28 (vb .add 26 27)) 415,
 vD (vT 23 29 (.ias 8 (.s 25) (.s 28))) 991,
 vD (vT 23 30 (.ld true 8 (.s 29))) 2015,
 vD (vT 23 31 (.mv (.s 0))) 31,
 vD (vT 23 32 (.mv (.s 3))) 31,
 vD (vT 23 33 (.mv (.s 11))) 31,
 vD (vT 23 34 (vb .add 32 33)) 24607,
 vD (vT 23 35 (vc .add 34 1)) 57375,
 vD (vT 23 36 (.ias 8 (.s 31) (.s 35))) 127007,
 vD (vT 23 37 (.ld true 8 (.s 36))) 258079,
 ⟨⟨some (23, true), some 38, .inr (.val true (.s 24) [(.s 30), (.s 37)])⟩, some [], [], 524287, false⟩,
 vD (vT 23 39 (vc .lss 38 0)) 1048575,
 vD (vP 40 (.pick (.s 23) (.s 39) (.c (.bool false)))) 2097151])
 (.cond (.s 40) (.region [vM 41 11,
 vP 42 (vc .add 41 1),
 vM 11 42])
 (.skip)))
 (.seq (.seq (.draw [vD (vM 43 4) 0,
 vD (vM 44 0) 0,
 vD (vM 45 3) 0,
 vD (vM 46 10) 0,
 vD (vP 47 (vb .add 45 46)) 12,
 vD (vI 48 8 44 47) 30,
 vD (vP 49 (.ld true 8 (.s 48))) 62,
 vD (vM 50 0) 0,
 vD (vM 51 3) 0,
 vD (vM 52 11) 0,
 vD (vP 53 (vb .add 51 52)) 768,
 vD (vI 54 8 50 53) 1920,
 vD (vP 55 (.ld true 8 (.s 54))) 3968,
 ⟨⟨none, some 56, .inr (.val false (.s 43) [(.s 49), (.s 55)])⟩, some [], [], 8191, false⟩,
 vD (vP 57 (vc .lss 56 0)) 16383,
 vD (vP 58 (.not (.s 57))) 32767])
 (.cond (.s 58) (.ret)
 (.skip)))
 (.seq (.draw [vD (vM 59 0) 0,
 vD (vM 60 3) 0,
 vD (vM 61 10) 0,
 vD (vP 62 (vb .add 60 61)) 6,
 vD (vM 63 0) 0,
 vD (vM 64 3) 0,
 vD (vM 65 11) 0,
 vD (vP 66 (vb .add 64 65)) 96,
 vD (vM 67 0) 0,
 vD (vM 68 3) 0,
 vD (vM 69 11) 0,
 vD (vP 70 (vb .add 68 69)) 1536,
 vD (vI 71 8 67 70) 3840,
 vD (vP 72 (.ld true 8 (.s 71))) 7936,
 vD (vM 73 0) 0,
 vD (vM 74 3) 0,
 vD (vM 75 10) 0,
 vD (vP 76 (vb .add 74 75)) 98304,
 vD (vI 77 8 73 76) 245760,
 vD (vP 78 (.ld true 8 (.s 77))) 507904,
 vD (vI 79 8 59 62) 1048335,
 ⟨⟨none, none, .inl (.st 8 (.s 79) (.s 72))⟩, (some [.at 0]), [], 2096911, false⟩,
 vD (vI 80 8 63 66) 4194303,
 ⟨⟨none, none, .inl (.st 8 (.s 80) (.s 78))⟩, (some [.at 0]), [], 8388607, false⟩])
 (.region [vM 81 11,
 vM 10 81]))))))
def k86 : Cd :=
  .seq (.region [vM 12 1,
 vM 10 12])
 (.block 0 (.loop k86l0))
def k87 : Cd :=
  .seq (.region [vP 2 (.mv (.c (.int .u64 0)))])
 (.seq (.region [vM 3 0,
 vP 4 (.cvi .u64 (.s 3)),
 vN 5 75 [(.s 4)],
 vP 6 (.bin .shl (.c (.int .u64 1)) (.s 5)),
 vM 2 6])
 (.ret))
def k88 : Cd :=
  .seq (.region [vP 2 (.mv (.c (.int .u64 0)))])
 (.seq (.draw [vD (vM 3 0) 0,
 vD (vP 4 (.nc (.s 3))) 1,
 vD (vL 5 1 4) 3,
 vD (vM 6 0) 0,
 vD (vP 7 (.nc (.s 6))) 8,
 vD (vL 8 1 7) 24,
 vD (vP 9 (.bin .shl (.s 8) (.c (.int .u64 13)))) 56,
 vD (vP 10 (vb .xor 5 9)) 127,
 vD (vP 11 (.nc (.s 3))) 255,
 ⟨⟨none, none, .inl (.st 1 (.s 11) (.s 10))⟩, (some [.at 0]), [], 511, false⟩])
 (.seq (.draw [vD (vM 12 0) 0,
 vD (vP 13 (.nc (.s 12))) 1,
 vD (vL 14 1 13) 3,
 vD (vM 15 0) 0,
 vD (vP 16 (.nc (.s 15))) 8,
 vD (vL 17 1 16) 24,
 vD (vP 18 (.bin .shr (.s 17) (.c (.int .u64 7)))) 56,
 vD (vP 19 (vb .xor 14 18)) 127,
 vD (vP 20 (.nc (.s 12))) 255,
 ⟨⟨none, none, .inl (.st 1 (.s 20) (.s 19))⟩, (some [.at 0]), [], 511, false⟩])
 (.seq (.draw [vD (vM 21 0) 0,
 vD (vP 22 (.nc (.s 21))) 1,
 vD (vL 23 1 22) 3,
 vD (vM 24 0) 0,
 vD (vP 25 (.nc (.s 24))) 8,
 vD (vL 26 1 25) 24,
 vD (vP 27 (.bin .shl (.s 26) (.c (.int .u64 17)))) 56,
 vD (vP 28 (vb .xor 23 27)) 127,
 vD (vP 29 (.nc (.s 21))) 255,
 ⟨⟨none, none, .inl (.st 1 (.s 29) (.s 28))⟩, (some [.at 0]), [], 511, false⟩])
 (.seq (.region [vM 30 0,
 vP 31 (.nc (.s 30)),
 vL 32 1 31,
 vM 2 32])
 (.ret)))))
def k89 : Cd :=
  .seq (.region [vP 8 (.mv (vi 0))])
 (.seq (.region [vM 9 0,
 vM 10 1,
 vP 11 (vc .sub 10 1),
 vM 12 1,
 vM 13 1,
 vP 14 (vc .add 13 1),
 vM 15 2,
 vM 16 3,
 vN 17 90 [(.s 9), (.s 11), (.s 12), (.s 14), (.s 15), (.s 16)],
 vM 8 17])
 (.ret))
def k90 : Cd :=
  .seq (.region [vP 12 (.mv (vi 0))])
 (.seq (.region [vM 14 0,
 vM 15 1,
 vM 16 2,
 vM 17 4,
 vM 18 5,
 vN 19 91 [(.s 14), (.s 15), (.s 16), (.s 17), (.s 18)],
 vM 13 19,
 vP 20 (.ex (.s 13) 0),
 vP 21 (.ex (.s 13) 1),
 vM 1 20,
 vM 2 21])
 (.seq (.region [vM 23 0,
 vM 24 2,
 vM 25 3,
 vM 26 4,
 vM 27 5,
 vN 28 91 [(.s 23), (.s 24), (.s 25), (.s 26), (.s 27)],
 vM 22 28,
 vP 29 (.ex (.s 22) 0),
 vP 30 (.ex (.s 22) 1),
 vM 2 29,
 vM 3 30])
 (.seq (.region [vM 32 0,
 vM 33 1,
 vM 34 2,
 vM 35 4,
 vM 36 5,
 vN 37 91 [(.s 32), (.s 33), (.s 34), (.s 35), (.s 36)],
 vM 31 37,
 vP 38 (.ex (.s 31) 0),
 vP 39 (.ex (.s 31) 1),
 vM 1 38,
 vM 2 39])
 (.seq (.region [vM 40 2,
 vM 12 40])
 (.ret)))))
def k91 : Cd :=
  .seq (.region [vP 10 (.mv (vi 0)),
 vP 11 (.mv (vi 0))])
 (.seq (.seq (.draw [vD (vM 12 4) 0,
 vD (vM 13 0) 0,
 vD (vM 14 2) 0,
 vD (vI 15 8 13 14) 6,
 vD (vP 16 (.ld true 8 (.s 15))) 14,
 vD (vM 17 0) 0,
 vD (vM 18 1) 0,
 vD (vI 19 8 17 18) 96,
 vD (vP 20 (.ld true 8 (.s 19))) 224,
 ⟨⟨none, some 21, .inr (.val false (.s 12) [(.s 16), (.s 20)])⟩, some [], [], 511, false⟩,
 vD (vP 22 (vc .lss 21 0)) 1023])
 (.cond (.s 22) (.seq (.region [vM 23 3,
 vP 24 (.nc (.s 23)),
 vL 25 1 24,
 vP 26 (vc .add 25 1),
 vP 27 (.nc (.s 23)),
 ⟨none, none, .inl (.st 1 (.s 27) (.s 26))⟩])
 (.seq (.region [vM 28 2,
 vM 29 1,
 vM 10 28,
 vM 11 29])
 (.ret)))
 (.skip)))
 (.seq (.region [vM 30 1,
 vM 31 2,
 vM 10 30,
 vM 11 31])
 (.ret)))
end Go.Proofs.Ytkbamkdgiglljaa
