/- The small code of the functions of this program, as its own reader reads them: part B. -/
import Derived.Test.YtgbkdjlekfjkfaaGreatDoorCodeA
namespace Go.Proofs.YtgbkdjlekfjkfaaGreatDoor
open Go Go.Em
set_option maxRecDepth 100000
def k193 : Cd :=
  .seq (.region [vP 4 (.mv (.c (.int .u64 0))),
 vP 5 (.mv (.c (.int .u64 0)))])
 (.seq (.region [vM 14 0,
 vP 15 (.bin .and (.s 14) (.c (.int .u64 4294967295))),
 vM 6 15])
 (.seq (.region [vM 16 0,
 vP 17 (.bin .shr (.s 16) (.c (.int .u64 32))),
 vM 7 17])
 (.seq (.region [vM 18 1,
 vP 19 (.bin .and (.s 18) (.c (.int .u64 4294967295))),
 vM 8 19])
 (.seq (.region [vM 20 1,
 vP 21 (.bin .shr (.s 20) (.c (.int .u64 32))),
 vM 9 21])
 (.seq (.region [vM 22 6,
 vM 23 8,
 vP 24 (vb .mul 22 23),
 vM 10 24])
 (.seq (.region [vM 25 7,
 vM 26 8,
 vP 27 (vb .mul 25 26),
 vM 28 10,
 vP 29 (.bin .shr (.s 28) (.c (.int .u64 32))),
 vP 30 (vb .add 27 29),
 vM 11 30])
 (.seq (.region [vM 31 11,
 vP 32 (.bin .and (.s 31) (.c (.int .u64 4294967295))),
 vM 12 32])
 (.seq (.region [vM 33 11,
 vP 34 (.bin .shr (.s 33) (.c (.int .u64 32))),
 vM 13 34])
 (.seq (.region [vM 35 12,
 vM 36 6,
 vM 37 9,
 vP 38 (vb .mul 36 37),
 vP 39 (vb .add 35 38),
 vM 12 39])
 (.seq (.region [vM 40 7,
 vM 41 9,
 vP 42 (vb .mul 40 41),
 vM 43 13,
 vP 44 (vb .add 42 43),
 vM 45 12,
 vP 46 (.bin .shr (.s 45) (.c (.int .u64 32))),
 vP 47 (vb .add 44 46),
 vM 4 47])
 (.seq (.region [vM 48 0,
 vM 49 1,
 vP 50 (vb .mul 48 49),
 vM 5 50])
 (.ret))))))))))))
def k194l0 : Cd :=
  .seq (.seq (.draw [vD (vM 16 7) 0,
 vD (vM 17 1) 0,
 vD (vP 18 (vb .gtr 16 17)) 3,
 vD (vM 19 18) 7,
 vD (vT 19 20 (.mv (.s 0))) 15,
 vD (vT 19 21 (.mv (.s 7))) 15,
 vD (vT 19 22 (.ias 1 (.s 20) (.s 21))) 63,
 vD (vT 19 23 (.ld false 1 (.s 22))) 127,
 vD (vT 19 24 (.mv (.s 0))) 15,
 vD (vT 19 25 (.mv (.s 7))) 15,
 vD (vT 19 26 (vc .sub 25 1)) 527,
 vD (vT 19 27 (.ias 1 (.s 24) (.s 26))) 1807,
 vD (vT 19 28 (.ld false 1 (.s 27))) 3855,
 ⟨⟨some (19, true), some 29, .inr (.fn 170 [(.s 23), (.s 28)])⟩, some [], [], 8191, false⟩,
 vD (vP 30 (.pick (.s 19) (.s 29) (.c (.bool false)))) 16383])
 (.cond (.s 30) (.skip)
 (.exit 2)))
 (.seq (.block 3 (.draw [vD (vM 33 0) 0,
 vD (vM 34 7) 0,
 vD (vM 35 0) 0,
 vD (vM 36 7) 0,
 vD (vP 37 (vc .sub 36 1)) 8,
 vD (vM 38 0) 0,
 vD (vM 39 7) 0,
 vD (vP 40 (vc .sub 39 1)) 64,
 vD (vI 41 1 38 40) 224,
 vD (vL 42 1 41) 480,
 vD (vM 43 0) 0,
 vD (vM 44 7) 0,
 vD (vI 45 1 43 44) 3072,
 vD (vL 46 1 45) 7168,
 vD (vI 47 1 33 34) 16355,
 ⟨⟨none, none, .inl (.st 1 (.s 47) (.s 42))⟩, (some [.at 0]), [], 32739, false⟩,
 vD (vI 48 1 35 37) 65535,
 ⟨⟨none, none, .inl (.st 1 (.s 48) (.s 46))⟩, (some [.at 0]), [], 131071, false⟩]))
 (.region [vM 31 7,
 vP 32 (vc .sub 31 1),
 vM 7 32]))
def k194l1 : Cd :=
  .seq (.seq (.region [vM 10 6,
 vM 11 2,
 vP 12 (vb .lss 10 11)])
 (.cond (.s 12) (.skip)
 (.exit 0)))
 (.seq (.block 1 (.seq (.region [vM 15 6,
 vM 7 15])
 (.block 2 (.loop k194l0))))
 (.region [vM 13 6,
 vP 14 (vc .add 13 1),
 vM 6 14]))
def k194 : Cd :=
  .seq (.region [vM 8 1,
 vP 9 (vc .add 8 1),
 vM 6 9])
 (.block 0 (.loop k194l1))
def k195l0 : Cd :=
  .seq (.seq (.region [vM 18 9,
 vP 19 (vc .geq 18 0)])
 (.cond (.s 19) (.skip)
 (.exit 0)))
 (.seq (.block 1 (.region [vM 22 0,
 vM 23 9,
 vM 24 8,
 vM 25 6,
 vN 26 213 [(.s 22), (.s 23), (.s 24), (.s 25)]]))
 (.region [vM 20 9,
 vP 21 (vc .sub 20 1),
 vM 9 21]))
def k195l1 : Cd :=
  .seq (.seq (.region [vM 29 10,
 vP 30 (vc .geq 29 0)])
 (.cond (.s 30) (.skip)
 (.exit 2)))
 (.seq (.block 3 (.seq (.draw [vD (vM 33 0) 0,
 vD (vM 34 6) 0,
 vD (vM 35 0) 0,
 vD (vM 36 6) 0,
 vD (vM 37 10) 0,
 vD (vP 38 (vb .add 36 37)) 24,
 vD (vM 39 0) 0,
 vD (vM 40 6) 0,
 vD (vM 41 10) 0,
 vD (vP 42 (vb .add 40 41)) 384,
 vD (vI 43 1 39 42) 960,
 vD (vL 44 1 43) 1984,
 vD (vM 45 0) 0,
 vD (vM 46 6) 0,
 vD (vI 47 1 45 46) 12288,
 vD (vL 48 1 47) 28672,
 vD (vI 49 1 33 34) 65475,
 ⟨⟨none, none, .inl (.st 1 (.s 49) (.s 44))⟩, (some [.at 0]), [], 131011, false⟩,
 vD (vI 50 1 35 38) 262143,
 ⟨⟨none, none, .inl (.st 1 (.s 50) (.s 48))⟩, (some [.at 0]), [], 524287, false⟩])
 (.region [vM 51 0,
 vM 52 7,
 vM 53 10,
 vM 54 6,
 vN 55 213 [(.s 51), (.s 52), (.s 53), (.s 54)]])))
 (.region [vM 31 10,
 vP 32 (vc .sub 31 1),
 vM 10 32]))
def k195 : Cd :=
  .seq (.region [vM 11 1,
 vM 6 11])
 (.seq (.region [vP 7 (.mv (vi 0))])
 (.seq (.region [vM 12 2,
 vM 13 1,
 vP 14 (vb .sub 12 13),
 vM 8 14])
 (.seq (.seq (.region [vM 15 8,
 vP 16 (vc .sub 15 1),
 vP 17 (vc .quo 16 2),
 vM 9 17])
 (.block 0 (.loop k195l0)))
 (.seq (.region [vM 27 8,
 vP 28 (vc .sub 27 1),
 vM 10 28])
 (.block 2 (.loop k195l1))))))
def k196l0 : Cd :=
  .seq (.seq (.region [vM 26 9,
 vM 27 1,
 vM 28 6,
 vP 29 (vc .quo 28 4),
 vP 30 (vc .mul 29 2),
 vP 31 (vb .add 27 30),
 vP 32 (vc .add 31 1),
 vP 33 (vb .leq 26 32)])
 (.cond (.s 33) (.skip)
 (.exit 0)))
 (.seq (.block 1 (.seq (.region [vN 36 215 [(.s 7)],
 vM 37 8,
 vP 38 (.bin .sub (.s 37) (.c (.int .u64 1))),
 vP 39 (vb .and 36 38),
 vP 40 (.cvi .i64 (.s 39)),
 vM 10 40])
 (.seq (.seq (.region [vM 41 10,
 vM 42 6,
 vP 43 (vb .geq 41 42)])
 (.cond (.s 43) (.region [vM 44 10,
 vM 45 6,
 vP 46 (vb .sub 44 45),
 vM 10 46])
 (.skip)))
 (.draw [vD (vM 47 0) 0,
 vD (vM 48 9) 0,
 vD (vM 49 0) 0,
 vD (vM 50 1) 0,
 vD (vM 51 10) 0,
 vD (vP 52 (vb .add 50 51)) 24,
 vD (vM 53 0) 0,
 vD (vM 54 1) 0,
 vD (vM 55 10) 0,
 vD (vP 56 (vb .add 54 55)) 384,
 vD (vI 57 1 53 56) 960,
 vD (vL 58 1 57) 1984,
 vD (vM 59 0) 0,
 vD (vM 60 9) 0,
 vD (vI 61 1 59 60) 12288,
 vD (vL 62 1 61) 28672,
 vD (vI 63 1 47 48) 65475,
 ⟨⟨none, none, .inl (.st 1 (.s 63) (.s 58))⟩, (some [.at 0]), [], 131011, false⟩,
 vD (vI 64 1 49 52) 262143,
 ⟨⟨none, none, .inl (.st 1 (.s 64) (.s 62))⟩, (some [.at 0]), [], 524287, false⟩]))))
 (.region [vM 34 9,
 vP 35 (vc .add 34 1),
 vM 9 35]))
def k196 : Cd :=
  .seq (.region [vM 11 2,
 vM 12 1,
 vP 13 (vb .sub 11 12),
 vM 6 13])
 (.seq (.region [vM 14 6,
 vP 15 (vc .geq 14 8)])
 (.cond (.s 15) (.seq (.region [vM 16 6,
 vP 17 (.cvi .u64 (.s 16)),
 vP 7 (.alloc 270 [(.int .u64 0)]),
 ⟨none, none, .inl (.st 1 (.s 7) (.s 17))⟩])
 (.seq (.region [vM 18 6,
 vN 19 214 [(.s 18)],
 vM 8 19])
 (.seq (.region [vM 20 1,
 vM 21 6,
 vP 22 (vc .quo 21 4),
 vP 23 (vc .mul 22 2),
 vP 24 (vb .add 20 23),
 vP 25 (vc .sub 24 1),
 vM 9 25])
 (.block 0 (.loop k196l0)))))
 (.skip)))
def k197 : Cd :=
  .seq (.region [vP 6 (.mv (vi 0)),
 vP 7 (.mv (vi 0))])
 (.seq (.region [vM 13 2,
 vM 14 1,
 vP 15 (vb .sub 13 14),
 vM 8 15])
 (.seq (.region [vP 9 (.alloc 3 [(.int .i64 0)])])
 (.seq (.region [vM 16 1,
 vM 17 8,
 vP 18 (vc .quo 17 4),
 vP 19 (vc .mul 18 1),
 vP 20 (vb .add 16 19),
 vM 10 20])
 (.seq (.region [vM 21 1,
 vM 22 8,
 vP 23 (vc .quo 22 4),
 vP 24 (vc .mul 23 2),
 vP 25 (vb .add 21 24),
 vM 11 25])
 (.seq (.region [vM 26 1,
 vM 27 8,
 vP 28 (vc .quo 27 4),
 vP 29 (vc .mul 28 3),
 vP 30 (vb .add 26 29),
 vM 12 30])
 (.seq (.seq (.region [vM 31 8,
 vP 32 (vc .geq 31 8)])
 (.cond (.s 32) (.seq (.seq (.region [vM 33 8,
 vP 34 (vc .geq 33 50)])
 (.cond (.s 34) (.seq (.region [vM 35 0,
 vM 36 10,
 vN 37 216 [(.s 35), (.s 36), (.s 9)],
 vM 10 37])
 (.seq (.region [vM 38 0,
 vM 39 11,
 vN 40 216 [(.s 38), (.s 39), (.s 9)],
 vM 11 40])
 (.region [vM 41 0,
 vM 42 12,
 vN 43 216 [(.s 41), (.s 42), (.s 9)],
 vM 12 43])))
 (.skip)))
 (.region [vM 44 0,
 vM 45 10,
 vM 46 11,
 vM 47 12,
 vN 48 217 [(.s 44), (.s 45), (.s 46), (.s 47), (.s 9)],
 vM 11 48]))
 (.skip)))
 (.seq (.region [vL 49 1 9])
 (.block 0 (.seq (.region [vP 52 (vc .eql 49 0),
 vM 51 52])
 (.cond (.s 51) (.seq (.region [vM 53 11,
 vM 6 53,
 vP 7 (.mv (vi 1))])
 (.ret))
 (.seq (.region [vP 55 (vc .eql 49 12),
 vM 54 55])
 (.cond (.s 54) (.seq (.region [vM 56 11,
 vM 6 56,
 vP 7 (.mv (vi 2))])
 (.ret))
 (.seq (.region [vM 50 11,
 vM 6 50,
 vP 7 (.mv (vi 0))])
 (.ret))))))))))))))
def k198l0 : Cd :=
  .seq (.seq (.region [vM 11 6,
 vM 12 7,
 vP 13 (vb .lss 11 12)])
 (.cond (.s 13) (.skip)
 (.exit 0)))
 (.block 1 (.seq (.draw [vD (vM 14 0) 0,
 vD (vM 15 6) 0,
 vD (vM 16 0) 0,
 vD (vM 17 7) 0,
 vD (vM 18 0) 0,
 vD (vM 19 7) 0,
 vD (vI 20 1 18 19) 48,
 vD (vL 21 1 20) 112,
 vD (vM 22 0) 0,
 vD (vM 23 6) 0,
 vD (vI 24 1 22 23) 768,
 vD (vL 25 1 24) 1792,
 vD (vI 26 1 14 15) 4083,
 ⟨⟨none, none, .inl (.st 1 (.s 26) (.s 21))⟩, (some [.at 0]), [], 8179, false⟩,
 vD (vI 27 1 16 17) 16383,
 ⟨⟨none, none, .inl (.st 1 (.s 27) (.s 25))⟩, (some [.at 0]), [], 32767, false⟩])
 (.seq (.region [vM 28 6,
 vP 29 (vc .add 28 1),
 vM 6 29])
 (.region [vM 30 7,
 vP 31 (vc .sub 30 1),
 vM 7 31]))))
def k198 : Cd :=
  .seq (.region [vM 8 1,
 vM 6 8])
 (.seq (.region [vM 9 2,
 vP 10 (vc .sub 9 1),
 vM 7 10])
 (.block 0 (.loop k198l0)))
def k199l0 : Cd :=
  .seq (.seq (.draw [vD (vM 17 7) 0,
 vD (vM 18 2) 0,
 vD (vP 19 (vb .lss 17 18)) 3,
 vD (vM 20 19) 7,
 vD (vT 20 21 (.mv (.s 0))) 15,
 vD (vT 20 22 (.mv (.s 7))) 15,
 vD (vT 20 23 (.ias 1 (.s 21) (.s 22))) 63,
 vD (vT 20 24 (.ld false 1 (.s 23))) 127,
 vD (vT 20 25 (.mv (.s 0))) 15,
 vD (vT 20 26 (.mv (.s 7))) 15,
 vD (vT 20 27 (vc .sub 26 1)) 527,
 vD (vT 20 28 (.ias 1 (.s 25) (.s 27))) 1807,
 vD (vT 20 29 (.ld false 1 (.s 28))) 3855,
 ⟨⟨some (20, true), some 30, .inr (.fn 170 [(.s 24), (.s 29)])⟩, some [], [], 8191, false⟩,
 vD (vT 20 31 (.not (.s 30))) 16383,
 vD (vP 32 (.pick (.s 20) (.s 31) (.c (.bool false)))) 32767])
 (.cond (.s 32) (.skip)
 (.exit 2)))
 (.block 3 (.region [vM 33 7,
 vP 34 (vc .add 33 1),
 vM 7 34]))
def k199l1 : Cd :=
  .seq (.seq (.region [vM 64 9,
 vP 65 (vc .geq 64 1)])
 (.cond (.s 65) (.skip)
 (.exit 4)))
 (.seq (.block 5 (.seq (.seq (.draw [vD (vM 68 0) 0,
 vD (vM 69 9) 0,
 vD (vI 70 1 68 69) 3,
 vD (vL 71 1 70) 7,
 vD (vM 72 0) 0,
 vD (vM 73 9) 0,
 vD (vP 74 (vc .sub 73 1)) 32,
 vD (vI 75 1 72 74) 112,
 vD (vL 76 1 75) 240,
 vD (vN 77 170 [(.s 71), (.s 76)]) 511,
 vD (vP 78 (.not (.s 77))) 1023])
 (.cond (.s 78) (.exit 4)
 (.skip)))
 (.draw [vD (vM 79 0) 0,
 vD (vM 80 9) 0,
 vD (vM 81 0) 0,
 vD (vM 82 9) 0,
 vD (vP 83 (vc .sub 82 1)) 8,
 vD (vM 84 0) 0,
 vD (vM 85 9) 0,
 vD (vP 86 (vc .sub 85 1)) 64,
 vD (vI 87 1 84 86) 224,
 vD (vL 88 1 87) 480,
 vD (vM 89 0) 0,
 vD (vM 90 9) 0,
 vD (vI 91 1 89 90) 3072,
 vD (vL 92 1 91) 7168,
 vD (vI 93 1 79 80) 16355,
 ⟨⟨none, none, .inl (.st 1 (.s 93) (.s 88))⟩, (some [.at 0]), [], 32739, false⟩,
 vD (vI 94 1 81 83) 65535,
 ⟨⟨none, none, .inl (.st 1 (.s 94) (.s 92))⟩, (some [.at 0]), [], 131071, false⟩])))
 (.region [vM 66 9,
 vP 67 (vc .sub 66 1),
 vM 9 67]))
def k199l2 : Cd :=
  .seq (.seq (.region [vM 101 10,
 vM 102 2,
 vP 103 (vb .lss 101 102)])
 (.cond (.s 103) (.skip)
 (.exit 6)))
 (.seq (.block 7 (.seq (.seq (.draw [vD (vM 106 0) 0,
 vD (vM 107 10) 0,
 vD (vI 108 1 106 107) 3,
 vD (vL 109 1 108) 7,
 vD (vM 110 0) 0,
 vD (vM 111 10) 0,
 vD (vP 112 (vc .sub 111 1)) 32,
 vD (vI 113 1 110 112) 112,
 vD (vL 114 1 113) 240,
 vD (vN 115 170 [(.s 109), (.s 114)]) 511,
 vD (vP 116 (.not (.s 115))) 1023])
 (.cond (.s 116) (.exit 6)
 (.skip)))
 (.draw [vD (vM 117 0) 0,
 vD (vM 118 10) 0,
 vD (vM 119 0) 0,
 vD (vM 120 10) 0,
 vD (vP 121 (vc .sub 120 1)) 8,
 vD (vM 122 0) 0,
 vD (vM 123 10) 0,
 vD (vP 124 (vc .sub 123 1)) 64,
 vD (vI 125 1 122 124) 224,
 vD (vL 126 1 125) 480,
 vD (vM 127 0) 0,
 vD (vM 128 10) 0,
 vD (vI 129 1 127 128) 3072,
 vD (vL 130 1 129) 7168,
 vD (vI 131 1 117 118) 16355,
 ⟨⟨none, none, .inl (.st 1 (.s 131) (.s 126))⟩, (some [.at 0]), [], 32739, false⟩,
 vD (vI 132 1 119 121) 65535,
 ⟨⟨none, none, .inl (.st 1 (.s 132) (.s 130))⟩, (some [.at 0]), [], 131071, false⟩])))
 (.region [vM 104 10,
 vP 105 (vc .add 104 1),
 vM 10 105]))
def k199l3 : Cd :=
  .seq (.seq (.region [vM 13 8,
 vP 14 (vc .lss 13 5)])
 (.cond (.s 14) (.skip)
 (.exit 0)))
 (.seq (.block 1 (.seq (.block 2 (.loop k199l0))
 (.seq (.seq (.region [vM 35 7,
 vM 36 2,
 vP 37 (vb .eql 35 36)])
 (.cond (.s 37) (.seq (.region [vP 6 (.mv (.c (.bool true)))])
 (.ret))
 (.skip)))
 (.seq (.seq (.region [vM 38 2,
 vM 39 1,
 vP 40 (vb .sub 38 39),
 vP 41 (vc .lss 40 50)])
 (.cond (.s 41) (.seq (.region [vP 6 (.mv (.c (.bool false)))])
 (.ret))
 (.skip)))
 (.seq (.draw [vD (vM 42 0) 0,
 vD (vM 43 7) 0,
 vD (vM 44 0) 0,
 vD (vM 45 7) 0,
 vD (vP 46 (vc .sub 45 1)) 8,
 vD (vM 47 0) 0,
 vD (vM 48 7) 0,
 vD (vP 49 (vc .sub 48 1)) 64,
 vD (vI 50 1 47 49) 224,
 vD (vL 51 1 50) 480,
 vD (vM 52 0) 0,
 vD (vM 53 7) 0,
 vD (vI 54 1 52 53) 3072,
 vD (vL 55 1 54) 7168,
 vD (vI 56 1 42 43) 16355,
 ⟨⟨none, none, .inl (.st 1 (.s 56) (.s 51))⟩, (some [.at 0]), [], 32739, false⟩,
 vD (vI 57 1 44 46) 65535,
 ⟨⟨none, none, .inl (.st 1 (.s 57) (.s 55))⟩, (some [.at 0]), [], 131071, false⟩])
 (.seq (.seq (.region [vM 58 7,
 vM 59 1,
 vP 60 (vb .sub 58 59),
 vP 61 (vc .geq 60 2)])
 (.cond (.s 61) (.seq (.region [vM 62 7,
 vP 63 (vc .sub 62 1),
 vM 9 63])
 (.block 4 (.loop k199l1)))
 (.skip)))
 (.seq (.region [vM 95 2,
 vM 96 7,
 vP 97 (vb .sub 95 96),
 vP 98 (vc .geq 97 2)])
 (.cond (.s 98) (.seq (.region [vM 99 7,
 vP 100 (vc .add 99 1),
 vM 10 100])
 (.block 6 (.loop k199l2)))
 (.skip)))))))))
 (.region [vM 15 8,
 vP 16 (vc .add 15 1),
 vM 8 16]))
def k199 : Cd :=
  .seq (.region [vP 6 (.mv (.c (.bool false)))])
 (.seq (.region [vM 11 1,
 vP 12 (vc .add 11 1),
 vM 7 12])
 (.seq (.seq (.region [vP 8 (.mv (vi 0))])
 (.block 0 (.loop k199l3)))
 (.seq (.region [vP 6 (.mv (.c (.bool false)))])
 (.ret))))
def k200l0 : Cd :=
  .seq (.seq (.draw [vD (vM 29 9) 0,
 vD (vM 30 10) 0,
 vD (vP 31 (vb .leq 29 30)) 3,
 vD (vM 32 31) 7,
 vD (vT 32 33 (.mv (.s 0))) 15,
 vD (vT 32 34 (.mv (.s 1))) 15,
 vD (vT 32 35 (.ias 1 (.s 33) (.s 34))) 63,
 vD (vT 32 36 (.ld false 1 (.s 35))) 127,
 vD (vT 32 37 (.mv (.s 0))) 15,
 vD (vT 32 38 (.mv (.s 9))) 15,
 vD (vT 32 39 (.ias 1 (.s 37) (.s 38))) 783,
 vD (vT 32 40 (.ld false 1 (.s 39))) 1807,
 ⟨⟨some (32, true), some 41, .inr (.fn 170 [(.s 36), (.s 40)])⟩, some [], [], 4095, false⟩,
 vD (vT 32 42 (.not (.s 41))) 8191,
 vD (vP 43 (.pick (.s 32) (.s 42) (.c (.bool false)))) 16383])
 (.cond (.s 43) (.skip)
 (.exit 2)))
 (.block 3 (.region [vM 44 9,
 vP 45 (vc .add 44 1),
 vM 9 45]))
def k200l1 : Cd :=
  .seq (.seq (.draw [vD (vM 46 9) 0,
 vD (vM 47 10) 0,
 vD (vP 48 (vb .leq 46 47)) 3,
 vD (vM 49 48) 7,
 vD (vT 49 50 (.mv (.s 0))) 15,
 vD (vT 49 51 (.mv (.s 1))) 15,
 vD (vT 49 52 (.ias 1 (.s 50) (.s 51))) 63,
 vD (vT 49 53 (.ld false 1 (.s 52))) 127,
 vD (vT 49 54 (.mv (.s 0))) 15,
 vD (vT 49 55 (.mv (.s 10))) 15,
 vD (vT 49 56 (.ias 1 (.s 54) (.s 55))) 783,
 vD (vT 49 57 (.ld false 1 (.s 56))) 1807,
 ⟨⟨some (49, true), some 58, .inr (.fn 170 [(.s 53), (.s 57)])⟩, some [], [], 4095, false⟩,
 vD (vP 59 (.pick (.s 49) (.s 58) (.c (.bool false)))) 8191])
 (.cond (.s 59) (.skip)
 (.exit 4)))
 (.block 5 (.region [vM 60 10,
 vP 61 (vc .sub 60 1),
 vM 10 61]))
def k200l2 : Cd :=
  .block 1 (.seq (.block 2 (.loop k200l0))
 (.seq (.block 4 (.loop k200l1))
 (.seq (.seq (.region [vM 62 9,
 vM 63 10,
 vP 64 (vb .gtr 62 63)])
 (.cond (.s 64) (.exit 0)
 (.skip)))
 (.seq (.draw [vD (vM 65 0) 0,
 vD (vM 66 9) 0,
 vD (vM 67 0) 0,
 vD (vM 68 10) 0,
 vD (vM 69 0) 0,
 vD (vM 70 10) 0,
 vD (vI 71 1 69 70) 48,
 vD (vL 72 1 71) 112,
 vD (vM 73 0) 0,
 vD (vM 74 9) 0,
 vD (vI 75 1 73 74) 768,
 vD (vL 76 1 75) 1792,
 vD (vI 77 1 65 66) 4083,
 ⟨⟨none, none, .inl (.st 1 (.s 77) (.s 72))⟩, (some [.at 0]), [], 8179, false⟩,
 vD (vI 78 1 67 68) 16383,
 ⟨⟨none, none, .inl (.st 1 (.s 78) (.s 76))⟩, (some [.at 0]), [], 32767, false⟩])
 (.seq (.region [vM 79 9,
 vP 80 (vc .add 79 1),
 vM 9 80])
 (.region [vM 81 10,
 vP 82 (vc .sub 81 1),
 vM 10 82]))))))
def k200 : Cd :=
  .seq (.region [vP 8 (.mv (vi 0))])
 (.seq (.draw [vD (vM 11 0) 0,
 vD (vM 12 1) 0,
 vD (vM 13 0) 0,
 vD (vM 14 3) 0,
 vD (vM 15 0) 0,
 vD (vM 16 3) 0,
 vD (vI 17 1 15 16) 48,
 vD (vL 18 1 17) 112,
 vD (vM 19 0) 0,
 vD (vM 20 1) 0,
 vD (vI 21 1 19 20) 768,
 vD (vL 22 1 21) 1792,
 vD (vI 23 1 11 12) 4083,
 ⟨⟨none, none, .inl (.st 1 (.s 23) (.s 18))⟩, (some [.at 0]), [], 8179, false⟩,
 vD (vI 24 1 13 14) 16383,
 ⟨⟨none, none, .inl (.st 1 (.s 24) (.s 22))⟩, (some [.at 0]), [], 32767, false⟩])
 (.seq (.region [vM 25 1,
 vP 26 (vc .add 25 1),
 vM 27 2,
 vP 28 (vc .sub 27 1),
 vM 9 26,
 vM 10 28])
 (.seq (.block 0 (.loop k200l2))
 (.seq (.region [vM 83 9,
 vM 8 83])
 (.ret)))))
def k201l0 : Cd :=
  .seq (.seq (.draw [vD (vM 30 10) 0,
 vD (vM 31 11) 0,
 vD (vP 32 (vb .leq 30 31)) 3,
 vD (vM 33 32) 7,
 vD (vT 33 34 (.mv (.s 0))) 15,
 vD (vT 33 35 (.mv (.s 10))) 15,
 vD (vT 33 36 (.ias 1 (.s 34) (.s 35))) 63,
 vD (vT 33 37 (.ld false 1 (.s 36))) 127,
 vD (vT 33 38 (.mv (.s 0))) 15,
 vD (vT 33 39 (.mv (.s 1))) 15,
 vD (vT 33 40 (.ias 1 (.s 38) (.s 39))) 783,
 vD (vT 33 41 (.ld false 1 (.s 40))) 1807,
 ⟨⟨some (33, true), some 42, .inr (.fn 170 [(.s 37), (.s 41)])⟩, some [], [], 4095, false⟩,
 vD (vP 43 (.pick (.s 33) (.s 42) (.c (.bool false)))) 8191])
 (.cond (.s 43) (.skip)
 (.exit 0)))
 (.block 1 (.region [vM 44 10,
 vP 45 (vc .add 44 1),
 vM 10 45]))
def k201l1 : Cd :=
  .seq (.seq (.draw [vD (vM 46 10) 0,
 vD (vM 47 11) 0,
 vD (vP 48 (vb .leq 46 47)) 3,
 vD (vM 49 48) 7,
 vD (vT 49 50 (.mv (.s 0))) 15,
 vD (vT 49 51 (.mv (.s 11))) 15,
 vD (vT 49 52 (.ias 1 (.s 50) (.s 51))) 63,
 vD (vT 49 53 (.ld false 1 (.s 52))) 127,
 vD (vT 49 54 (.mv (.s 0))) 15,
 vD (vT 49 55 (.mv (.s 1))) 15,
 vD (vT 49 56 (.ias 1 (.s 54) (.s 55))) 783,
 vD (vT 49 57 (.ld false 1 (.s 56))) 1807,
 ⟨⟨some (49, true), some 58, .inr (.fn 170 [(.s 53), (.s 57)])⟩, some [], [], 4095, false⟩,
 vD (vT 49 59 (.not (.s 58))) 8191,
 vD (vP 60 (.pick (.s 49) (.s 59) (.c (.bool false)))) 16383])
 (.cond (.s 60) (.skip)
 (.exit 2)))
 (.block 3 (.region [vM 61 11,
 vP 62 (vc .sub 61 1),
 vM 11 62]))
def k201l2 : Cd :=
  .seq (.seq (.draw [vD (vM 99 10) 0,
 vD (vM 100 11) 0,
 vD (vP 101 (vb .leq 99 100)) 3,
 vD (vM 102 101) 7,
 vD (vT 102 103 (.mv (.s 0))) 15,
 vD (vT 102 104 (.mv (.s 10))) 15,
 vD (vT 102 105 (.ias 1 (.s 103) (.s 104))) 63,
 vD (vT 102 106 (.ld false 1 (.s 105))) 127,
 vD (vT 102 107 (.mv (.s 0))) 15,
 vD (vT 102 108 (.mv (.s 1))) 15,
 vD (vT 102 109 (.ias 1 (.s 107) (.s 108))) 783,
 vD (vT 102 110 (.ld false 1 (.s 109))) 1807,
 ⟨⟨some (102, true), some 111, .inr (.fn 170 [(.s 106), (.s 110)])⟩, some [], [], 4095, false⟩,
 vD (vP 112 (.pick (.s 102) (.s 111) (.c (.bool false)))) 8191])
 (.cond (.s 112) (.skip)
 (.exit 6)))
 (.block 7 (.region [vM 113 10,
 vP 114 (vc .add 113 1),
 vM 10 114]))
def k201l3 : Cd :=
  .seq (.seq (.draw [vD (vM 115 10) 0,
 vD (vM 116 11) 0,
 vD (vP 117 (vb .leq 115 116)) 3,
 vD (vM 118 117) 7,
 vD (vT 118 119 (.mv (.s 0))) 15,
 vD (vT 118 120 (.mv (.s 11))) 15,
 vD (vT 118 121 (.ias 1 (.s 119) (.s 120))) 63,
 vD (vT 118 122 (.ld false 1 (.s 121))) 127,
 vD (vT 118 123 (.mv (.s 0))) 15,
 vD (vT 118 124 (.mv (.s 1))) 15,
 vD (vT 118 125 (.ias 1 (.s 123) (.s 124))) 783,
 vD (vT 118 126 (.ld false 1 (.s 125))) 1807,
 ⟨⟨some (118, true), some 127, .inr (.fn 170 [(.s 122), (.s 126)])⟩, some [], [], 4095, false⟩,
 vD (vT 118 128 (.not (.s 127))) 8191,
 vD (vP 129 (.pick (.s 118) (.s 128) (.c (.bool false)))) 16383])
 (.cond (.s 129) (.skip)
 (.exit 8)))
 (.block 9 (.region [vM 130 11,
 vP 131 (vc .sub 130 1),
 vM 11 131]))
def k201l4 : Cd :=
  .block 5 (.seq (.block 6 (.loop k201l2))
 (.seq (.block 8 (.loop k201l3))
 (.seq (.seq (.region [vM 132 10,
 vM 133 11,
 vP 134 (vb .gtr 132 133)])
 (.cond (.s 134) (.exit 4)
 (.skip)))
 (.seq (.draw [vD (vM 135 0) 0,
 vD (vM 136 10) 0,
 vD (vM 137 0) 0,
 vD (vM 138 11) 0,
 vD (vM 139 0) 0,
 vD (vM 140 11) 0,
 vD (vI 141 1 139 140) 48,
 vD (vL 142 1 141) 112,
 vD (vM 143 0) 0,
 vD (vM 144 10) 0,
 vD (vI 145 1 143 144) 768,
 vD (vL 146 1 145) 1792,
 vD (vI 147 1 135 136) 4083,
 ⟨⟨none, none, .inl (.st 1 (.s 147) (.s 142))⟩, (some [.at 0]), [], 8179, false⟩,
 vD (vI 148 1 137 138) 16383,
 ⟨⟨none, none, .inl (.st 1 (.s 148) (.s 146))⟩, (some [.at 0]), [], 32767, false⟩])
 (.seq (.region [vM 149 10,
 vP 150 (vc .add 149 1),
 vM 10 150])
 (.region [vM 151 11,
 vP 152 (vc .sub 151 1),
 vM 11 152]))))))
def k201 : Cd :=
  .seq (.region [vP 8 (.mv (vi 0)),
 vP 9 (.mv (.c (.bool false)))])
 (.seq (.draw [vD (vM 12 0) 0,
 vD (vM 13 1) 0,
 vD (vM 14 0) 0,
 vD (vM 15 3) 0,
 vD (vM 16 0) 0,
 vD (vM 17 3) 0,
 vD (vI 18 1 16 17) 48,
 vD (vL 19 1 18) 112,
 vD (vM 20 0) 0,
 vD (vM 21 1) 0,
 vD (vI 22 1 20 21) 768,
 vD (vL 23 1 22) 1792,
 vD (vI 24 1 12 13) 4083,
 ⟨⟨none, none, .inl (.st 1 (.s 24) (.s 19))⟩, (some [.at 0]), [], 8179, false⟩,
 vD (vI 25 1 14 15) 16383,
 ⟨⟨none, none, .inl (.st 1 (.s 25) (.s 23))⟩, (some [.at 0]), [], 32767, false⟩])
 (.seq (.region [vM 26 1,
 vP 27 (vc .add 26 1),
 vM 28 2,
 vP 29 (vc .sub 28 1),
 vM 10 27,
 vM 11 29])
 (.seq (.block 0 (.loop k201l0))
 (.seq (.block 2 (.loop k201l1))
 (.seq (.seq (.region [vM 63 10,
 vM 64 11,
 vP 65 (vb .gtr 63 64)])
 (.cond (.s 65) (.seq (.draw [vD (vM 66 0) 0,
 vD (vM 67 11) 0,
 vD (vM 68 0) 0,
 vD (vM 69 1) 0,
 vD (vM 70 0) 0,
 vD (vM 71 1) 0,
 vD (vI 72 1 70 71) 48,
 vD (vL 73 1 72) 112,
 vD (vM 74 0) 0,
 vD (vM 75 11) 0,
 vD (vI 76 1 74 75) 768,
 vD (vL 77 1 76) 1792,
 vD (vI 78 1 66 67) 4083,
 ⟨⟨none, none, .inl (.st 1 (.s 78) (.s 73))⟩, (some [.at 0]), [], 8179, false⟩,
 vD (vI 79 1 68 69) 16383,
 ⟨⟨none, none, .inl (.st 1 (.s 79) (.s 77))⟩, (some [.at 0]), [], 32767, false⟩])
 (.seq (.region [vM 80 11,
 vM 8 80,
 vP 9 (.mv (.c (.bool true)))])
 (.ret)))
 (.skip)))
 (.seq (.draw [vD (vM 81 0) 0,
 vD (vM 82 10) 0,
 vD (vM 83 0) 0,
 vD (vM 84 11) 0,
 vD (vM 85 0) 0,
 vD (vM 86 11) 0,
 vD (vI 87 1 85 86) 48,
 vD (vL 88 1 87) 112,
 vD (vM 89 0) 0,
 vD (vM 90 10) 0,
 vD (vI 91 1 89 90) 768,
 vD (vL 92 1 91) 1792,
 vD (vI 93 1 81 82) 4083,
 ⟨⟨none, none, .inl (.st 1 (.s 93) (.s 88))⟩, (some [.at 0]), [], 8179, false⟩,
 vD (vI 94 1 83 84) 16383,
 ⟨⟨none, none, .inl (.st 1 (.s 94) (.s 92))⟩, (some [.at 0]), [], 32767, false⟩])
 (.seq (.region [vM 95 10,
 vP 96 (vc .add 95 1),
 vM 10 96])
 (.seq (.region [vM 97 11,
 vP 98 (vc .sub 97 1),
 vM 11 98])
 (.seq (.block 4 (.loop k201l4))
 (.seq (.draw [vD (vM 153 0) 0,
 vD (vM 154 11) 0,
 vD (vM 155 0) 0,
 vD (vM 156 1) 0,
 vD (vM 157 0) 0,
 vD (vM 158 1) 0,
 vD (vI 159 1 157 158) 48,
 vD (vL 160 1 159) 112,
 vD (vM 161 0) 0,
 vD (vM 162 11) 0,
 vD (vI 163 1 161 162) 768,
 vD (vL 164 1 163) 1792,
 vD (vI 165 1 153 154) 4083,
 ⟨⟨none, none, .inl (.st 1 (.s 165) (.s 160))⟩, (some [.at 0]), [], 8179, false⟩,
 vD (vI 166 1 155 156) 16383,
 ⟨⟨none, none, .inl (.st 1 (.s 166) (.s 164))⟩, (some [.at 0]), [], 32767, false⟩])
 (.seq (.region [vM 167 11,
 vM 8 167,
 vP 9 (.mv (.c (.bool false)))])
 (.ret))))))))))))
def k202 : Cd :=
  .seq (.region [vP 2 (.mv (vi 0))])
 (.seq (.seq (.region [vM 3 0,
 vP 4 (.bin .geq (.s 3) (.c (.int .u32 65536)))])
 (.cond (.s 4) (.seq (.region [vM 5 0,
 vP 6 (.bin .shr (.s 5) (.c (.int .u64 16))),
 vM 0 6])
 (.region [vP 2 (.mv (vi 16))]))
 (.skip)))
 (.seq (.seq (.region [vM 7 0,
 vP 8 (.bin .geq (.s 7) (.c (.int .u32 256)))])
 (.cond (.s 8) (.seq (.region [vM 9 0,
 vP 10 (.bin .shr (.s 9) (.c (.int .u64 8))),
 vM 0 10])
 (.region [vM 11 2,
 vP 12 (vc .add 11 8),
 vM 2 12]))
 (.skip)))
 (.seq (.region [vM 13 2,
 vM 14 0,
 vP 15 (.cvi .u8 (.s 14)),
 ⟨none, some 16, .inl (.ixs (.c (.string ⟨#[0, 1, 2, 2, 3, 3, 3, 3, 4, 4, 4, 4, 4, 4, 4, 4, 5, 5, 5, 5, 5, 5, 5, 5, 5, 5, 5, 5, 5, 5, 5, 5, 6, 6, 6, 6, 6, 6, 6, 6, 6, 6, 6, 6, 6, 6, 6, 6, 6, 6, 6, 6, 6, 6, 6, 6, 6, 6, 6, 6, 6, 6, 6, 6, 7, 7, 7, 7, 7, 7, 7, 7, 7, 7, 7, 7, 7, 7, 7, 7, 7, 7, 7, 7, 7, 7, 7, 7, 7, 7, 7, 7, 7, 7, 7, 7, 7, 7, 7, 7, 7, 7, 7, 7, 7, 7, 7, 7, 7, 7, 7, 7, 7, 7, 7, 7, 7, 7, 7, 7, 7, 7, 7, 7, 7, 7, 7, 7, 8, 8, 8, 8, 8, 8, 8, 8, 8, 8, 8, 8, 8, 8, 8, 8, 8, 8, 8, 8, 8, 8, 8, 8, 8, 8, 8, 8, 8, 8, 8, 8, 8, 8, 8, 8, 8, 8, 8, 8, 8, 8, 8, 8, 8, 8, 8, 8, 8, 8, 8, 8, 8, 8, 8, 8, 8, 8, 8, 8, 8, 8, 8, 8, 8, 8, 8, 8, 8, 8, 8, 8, 8, 8, 8, 8, 8, 8, 8, 8, 8, 8, 8, 8, 8, 8, 8, 8, 8, 8, 8, 8, 8, 8, 8, 8, 8, 8, 8, 8, 8, 8, 8, 8, 8, 8, 8, 8, 8, 8, 8, 8, 8, 8, 8, 8, 8, 8, 8, 8, 8, 8, 8, 8, 8, 8, 8, 8]⟩)) (.s 15))⟩,
 vP 17 (.cvi .i64 (.s 16)),
 vP 18 (vb .add 13 17),
 vM 2 18])
 (.ret))))
def k203 : Cd :=
  .seq (.region [vP 2 (.mv (vi 0))])
 (.seq (.seq (.region [vM 3 0,
 vP 4 (.bin .geq (.s 3) (.c (.int .u64 4294967296)))])
 (.cond (.s 4) (.seq (.region [vM 5 0,
 vP 6 (.bin .shr (.s 5) (.c (.int .u64 32))),
 vM 0 6])
 (.region [vP 2 (.mv (vi 32))]))
 (.skip)))
 (.seq (.seq (.region [vM 7 0,
 vP 8 (.bin .geq (.s 7) (.c (.int .u64 65536)))])
 (.cond (.s 8) (.seq (.region [vM 9 0,
 vP 10 (.bin .shr (.s 9) (.c (.int .u64 16))),
 vM 0 10])
 (.region [vM 11 2,
 vP 12 (vc .add 11 16),
 vM 2 12]))
 (.skip)))
 (.seq (.seq (.region [vM 13 0,
 vP 14 (.bin .geq (.s 13) (.c (.int .u64 256)))])
 (.cond (.s 14) (.seq (.region [vM 15 0,
 vP 16 (.bin .shr (.s 15) (.c (.int .u64 8))),
 vM 0 16])
 (.region [vM 17 2,
 vP 18 (vc .add 17 8),
 vM 2 18]))
 (.skip)))
 (.seq (.region [vM 19 2,
 vM 20 0,
 vP 21 (.cvi .u8 (.s 20)),
 ⟨none, some 22, .inl (.ixs (.c (.string ⟨#[0, 1, 2, 2, 3, 3, 3, 3, 4, 4, 4, 4, 4, 4, 4, 4, 5, 5, 5, 5, 5, 5, 5, 5, 5, 5, 5, 5, 5, 5, 5, 5, 6, 6, 6, 6, 6, 6, 6, 6, 6, 6, 6, 6, 6, 6, 6, 6, 6, 6, 6, 6, 6, 6, 6, 6, 6, 6, 6, 6, 6, 6, 6, 6, 7, 7, 7, 7, 7, 7, 7, 7, 7, 7, 7, 7, 7, 7, 7, 7, 7, 7, 7, 7, 7, 7, 7, 7, 7, 7, 7, 7, 7, 7, 7, 7, 7, 7, 7, 7, 7, 7, 7, 7, 7, 7, 7, 7, 7, 7, 7, 7, 7, 7, 7, 7, 7, 7, 7, 7, 7, 7, 7, 7, 7, 7, 7, 7, 8, 8, 8, 8, 8, 8, 8, 8, 8, 8, 8, 8, 8, 8, 8, 8, 8, 8, 8, 8, 8, 8, 8, 8, 8, 8, 8, 8, 8, 8, 8, 8, 8, 8, 8, 8, 8, 8, 8, 8, 8, 8, 8, 8, 8, 8, 8, 8, 8, 8, 8, 8, 8, 8, 8, 8, 8, 8, 8, 8, 8, 8, 8, 8, 8, 8, 8, 8, 8, 8, 8, 8, 8, 8, 8, 8, 8, 8, 8, 8, 8, 8, 8, 8, 8, 8, 8, 8, 8, 8, 8, 8, 8, 8, 8, 8, 8, 8, 8, 8, 8, 8, 8, 8, 8, 8, 8, 8, 8, 8, 8, 8, 8, 8, 8, 8, 8, 8, 8, 8, 8, 8, 8, 8, 8, 8, 8, 8]⟩)) (.s 21))⟩,
 vP 23 (.cvi .i64 (.s 22)),
 vP 24 (vb .add 19 23),
 vM 2 24])
 (.ret)))))
def k213l0 : Cd :=
  .block 1 (.seq (.region [vM 11 8,
 vP 12 (.bin .mul (vi 2) (.s 11)),
 vP 13 (vc .add 12 1),
 vM 9 13])
 (.seq (.seq (.region [vM 14 9,
 vM 15 2,
 vP 16 (vb .geq 14 15)])
 (.cond (.s 16) (.exit 0)
 (.skip)))
 (.seq (.seq (.draw [vD (vM 17 9) 0,
 vD (vP 18 (vc .add 17 1)) 1,
 vD (vM 19 2) 0,
 vD (vP 20 (vb .lss 18 19)) 7,
 vD (vM 21 20) 15,
 vD (vT 21 22 (.mv (.s 0))) 31,
 vD (vT 21 23 (.mv (.s 3))) 31,
 vD (vT 21 24 (.mv (.s 9))) 31,
 vD (vT 21 25 (vb .add 23 24)) 223,
 vD (vT 21 26 (.ias 1 (.s 22) (.s 25))) 511,
 vD (vT 21 27 (.ld false 1 (.s 26))) 1023,
 vD (vT 21 28 (.mv (.s 0))) 31,
 vD (vT 21 29 (.mv (.s 3))) 31,
 vD (vT 21 30 (.mv (.s 9))) 31,
 vD (vT 21 31 (vb .add 29 30)) 12319,
 vD (vT 21 32 (vc .add 31 1)) 28703,
 vD (vT 21 33 (.ias 1 (.s 28) (.s 32))) 63519,
 vD (vT 21 34 (.ld false 1 (.s 33))) 129055,
 ⟨⟨some (21, true), some 35, .inr (.fn 170 [(.s 27), (.s 34)])⟩, some [], [], 262143, false⟩,
 vD (vP 36 (.pick (.s 21) (.s 35) (.c (.bool false)))) 524287])
 (.cond (.s 36) (.region [vM 37 9,
 vP 38 (vc .add 37 1),
 vM 9 38])
 (.skip)))
 (.seq (.seq (.draw [vD (vM 39 0) 0,
 vD (vM 40 3) 0,
 vD (vM 41 8) 0,
 vD (vP 42 (vb .add 40 41)) 6,
 vD (vI 43 1 39 42) 15,
 vD (vL 44 1 43) 31,
 vD (vM 45 0) 0,
 vD (vM 46 3) 0,
 vD (vM 47 9) 0,
 vD (vP 48 (vb .add 46 47)) 384,
 vD (vI 49 1 45 48) 960,
 vD (vL 50 1 49) 1984,
 vD (vN 51 170 [(.s 44), (.s 50)]) 4095,
 vD (vP 52 (.not (.s 51))) 8191])
 (.cond (.s 52) (.ret)
 (.skip)))
 (.seq (.draw [vD (vM 53 0) 0,
 vD (vM 54 3) 0,
 vD (vM 55 8) 0,
 vD (vP 56 (vb .add 54 55)) 6,
 vD (vM 57 0) 0,
 vD (vM 58 3) 0,
 vD (vM 59 9) 0,
 vD (vP 60 (vb .add 58 59)) 96,
 vD (vM 61 0) 0,
 vD (vM 62 3) 0,
 vD (vM 63 9) 0,
 vD (vP 64 (vb .add 62 63)) 1536,
 vD (vI 65 1 61 64) 3840,
 vD (vL 66 1 65) 7936,
 vD (vM 67 0) 0,
 vD (vM 68 3) 0,
 vD (vM 69 8) 0,
 vD (vP 70 (vb .add 68 69)) 98304,
 vD (vI 71 1 67 70) 245760,
 vD (vL 72 1 71) 507904,
 vD (vI 73 1 53 56) 1048335,
 ⟨⟨none, none, .inl (.st 1 (.s 73) (.s 66))⟩, (some [.at 0]), [], 2096911, false⟩,
 vD (vI 74 1 57 60) 4194303,
 ⟨⟨none, none, .inl (.st 1 (.s 74) (.s 72))⟩, (some [.at 0]), [], 8388607, false⟩])
 (.region [vM 75 9,
 vM 8 75]))))))
def k213 : Cd :=
  .seq (.region [vM 10 1,
 vM 8 10])
 (.block 0 (.loop k213l0))
def k214 : Cd :=
  .seq (.region [vP 2 (.mv (.c (.int .u64 0)))])
 (.seq (.region [vM 3 0,
 vP 4 (.cvi .u64 (.s 3)),
 vN 5 174 [(.s 4)],
 vP 6 (.bin .shl (.c (.int .u64 1)) (.s 5)),
 vM 2 6])
 (.ret))
def k215 : Cd :=
  .seq (.region [vP 2 (.mv (.c (.int .u64 0)))])
 (.seq (.draw [vD (vM 3 0) 0,
 vD (vP 4 (.nc (.s 3))) 1,
 vD (vL 5 1 4) 3,
 vD (vM 6 0) 0,
 vD (vP 7 (.nc (.s 6))) 8,
 vD (vL 8 1 7) 24,
 vD (vP 9 (.bin .shl (.s 8) (.c (.int .u64 13)))) 56,
 vD (vP 10 (vb .xor 5 9)) 127,
 vD (vP 11 (.nc (.s 3))) 255,
 ⟨⟨none, none, .inl (.st 1 (.s 11) (.s 10))⟩, (some [.at 0]), [], 511, false⟩])
 (.seq (.draw [vD (vM 12 0) 0,
 vD (vP 13 (.nc (.s 12))) 1,
 vD (vL 14 1 13) 3,
 vD (vM 15 0) 0,
 vD (vP 16 (.nc (.s 15))) 8,
 vD (vL 17 1 16) 24,
 vD (vP 18 (.bin .shr (.s 17) (.c (.int .u64 7)))) 56,
 vD (vP 19 (vb .xor 14 18)) 127,
 vD (vP 20 (.nc (.s 12))) 255,
 ⟨⟨none, none, .inl (.st 1 (.s 20) (.s 19))⟩, (some [.at 0]), [], 511, false⟩])
 (.seq (.draw [vD (vM 21 0) 0,
 vD (vP 22 (.nc (.s 21))) 1,
 vD (vL 23 1 22) 3,
 vD (vM 24 0) 0,
 vD (vP 25 (.nc (.s 24))) 8,
 vD (vL 26 1 25) 24,
 vD (vP 27 (.bin .shl (.s 26) (.c (.int .u64 17)))) 56,
 vD (vP 28 (vb .xor 23 27)) 127,
 vD (vP 29 (.nc (.s 21))) 255,
 ⟨⟨none, none, .inl (.st 1 (.s 29) (.s 28))⟩, (some [.at 0]), [], 511, false⟩])
 (.seq (.region [vM 30 0,
 vP 31 (.nc (.s 30)),
 vL 32 1 31,
 vM 2 32])
 (.ret)))))
def k216 : Cd :=
  .seq (.region [vP 6 (.mv (vi 0))])
 (.seq (.region [vM 7 0,
 vM 8 1,
 vP 9 (vc .sub 8 1),
 vM 10 1,
 vM 11 1,
 vP 12 (vc .add 11 1),
 vM 13 2,
 vN 14 217 [(.s 7), (.s 9), (.s 10), (.s 12), (.s 13)],
 vM 6 14])
 (.ret))
def k217 : Cd :=
  .seq (.region [vP 10 (.mv (vi 0))])
 (.seq (.region [vM 12 0,
 vM 13 1,
 vM 14 2,
 vM 15 4,
 vN 16 221 [(.s 12), (.s 13), (.s 14), (.s 15)],
 vM 11 16,
 vP 17 (.ex (.s 11) 0),
 vP 18 (.ex (.s 11) 1),
 vM 1 17,
 vM 2 18])
 (.seq (.region [vM 20 0,
 vM 21 2,
 vM 22 3,
 vM 23 4,
 vN 24 221 [(.s 20), (.s 21), (.s 22), (.s 23)],
 vM 19 24,
 vP 25 (.ex (.s 19) 0),
 vP 26 (.ex (.s 19) 1),
 vM 2 25,
 vM 3 26])
 (.seq (.region [vM 28 0,
 vM 29 1,
 vM 30 2,
 vM 31 4,
 vN 32 221 [(.s 28), (.s 29), (.s 30), (.s 31)],
 vM 27 32,
 vP 33 (.ex (.s 27) 0),
 vP 34 (.ex (.s 27) 1),
 vM 1 33,
 vM 2 34])
 (.seq (.region [vM 35 2,
 vM 10 35])
 (.ret)))))
def k221 : Cd :=
  .seq (.region [vP 8 (.mv (vi 0)),
 vP 9 (.mv (vi 0))])
 (.seq (.seq (.draw [vD (vM 10 0) 0,
 vD (vM 11 2) 0,
 vD (vI 12 1 10 11) 3,
 vD (vL 13 1 12) 7,
 vD (vM 14 0) 0,
 vD (vM 15 1) 0,
 vD (vI 16 1 14 15) 48,
 vD (vL 17 1 16) 112,
 vD (vN 18 170 [(.s 13), (.s 17)]) 255])
 (.cond (.s 18) (.seq (.region [vM 19 3,
 vP 20 (.nc (.s 19)),
 vL 21 1 20,
 vP 22 (vc .add 21 1),
 vP 23 (.nc (.s 19)),
 ⟨none, none, .inl (.st 1 (.s 23) (.s 22))⟩])
 (.seq (.region [vM 24 2,
 vM 25 1,
 vM 8 24,
 vM 9 25])
 (.ret)))
 (.skip)))
 (.seq (.region [vM 26 1,
 vM 27 2,
 vM 8 26,
 vM 9 27])
 (.ret)))
end Go.Proofs.YtgbkdjlekfjkfaaGreatDoor
