/- The small code of the functions of this program, as its own reader reads them: part B. -/
import Derived.Test.YtlkpikdfbodhoaaDoorCodeA
namespace Go.Proofs.YtlkpikdfbodhoaaDoor
open Go Go.Em
set_option maxRecDepth 100000
def k128l0 : Cd :=
  .seq (.seq (.region [vM 26 9,
 vM 27 1,
 vM 28 6,
 ⟨none, some 29, .inl (.bin .quo (.s 28) (.c (.int .i64 4)))⟩,
 ⟨none, some 30, .inl (.bin .mul (.s 29) (.c (.int .i64 2)))⟩,
 ⟨none, some 31, .inl (.bin .add (.s 27) (.s 30))⟩,
 ⟨none, some 32, .inl (.bin .add (.s 31) (.c (.int .i64 1)))⟩,
 ⟨none, some 33, .inl (.bin .leq (.s 26) (.s 32))⟩])
 (.cond (.s 33) (.skip)
 (.exit 0)))
 (.seq (.block 1 (.seq (.region [⟨none, some 36, .inr (.fn 140 [(.s 7)])⟩,
 vM 37 8,
 ⟨none, some 38, .inl (.bin .sub (.s 37) (.c (.int .u64 1)))⟩,
 ⟨none, some 39, .inl (.bin .and (.s 36) (.s 38))⟩,
 ⟨none, some 40, .inl (.cvi .i64 (.s 39))⟩,
 vM 10 40])
 (.seq (.seq (.region [vM 41 10,
 vM 42 6,
 ⟨none, some 43, .inl (.bin .geq (.s 41) (.s 42))⟩])
 (.cond (.s 43) (.region [vM 44 10,
 vM 45 6,
 ⟨none, some 46, .inl (.bin .sub (.s 44) (.s 45))⟩,
 vM 10 46])
 (.skip)))
 (.draw [⟨vM 47 0, some [], [], 0, false⟩,
 ⟨vM 48 9, some [], [], 0, false⟩,
 ⟨vM 49 0, some [], [], 0, false⟩,
 ⟨vM 50 1, some [], [], 0, false⟩,
 ⟨vM 51 10, some [], [], 0, false⟩,
 ⟨⟨none, some 52, .inl (.bin .add (.s 50) (.s 51))⟩, some [], [], 24, false⟩,
 ⟨vM 53 0, some [], [], 0, false⟩,
 ⟨vM 54 1, some [], [], 0, false⟩,
 ⟨vM 55 10, some [], [], 0, false⟩,
 ⟨⟨none, some 56, .inl (.bin .add (.s 54) (.s 55))⟩, some [], [], 384, false⟩,
 ⟨vI 57 1 53 56, some [], [], 960, false⟩,
 ⟨vL 58 1 57, some [], [], 1984, false⟩,
 ⟨vM 59 0, some [], [], 0, false⟩,
 ⟨vM 60 9, some [], [], 0, false⟩,
 ⟨vI 61 1 59 60, some [], [], 12288, false⟩,
 ⟨vL 62 1 61, some [], [], 28672, false⟩,
 ⟨vI 63 1 47 48, some [], [], 65475, false⟩,
 ⟨⟨none, none, .inl (.st 1 (.s 63) (.s 58))⟩, (some [.at 0]), [], 131011, false⟩,
 ⟨vI 64 1 49 52, some [], [], 262143, false⟩,
 ⟨⟨none, none, .inl (.st 1 (.s 64) (.s 62))⟩, (some [.at 0]), [], 524287, false⟩]))))
 (.region [vM 34 9,
 ⟨none, some 35, .inl (.bin .add (.s 34) (.c (.int .i64 1)))⟩,
 vM 9 35]))
def k128 : Cd :=
  .seq (.region [vM 11 2,
 vM 12 1,
 ⟨none, some 13, .inl (.bin .sub (.s 11) (.s 12))⟩,
 vM 6 13])
 (.seq (.region [vM 14 6,
 ⟨none, some 15, .inl (.bin .geq (.s 14) (.c (.int .i64 8)))⟩])
 (.cond (.s 15) (.seq (.region [vM 16 6,
 ⟨none, some 17, .inl (.cvi .u64 (.s 16))⟩,
 ⟨none, some 7, .inl (.alloc 163 [(.int .u64 0)])⟩,
 ⟨none, none, .inl (.st 1 (.s 7) (.s 17))⟩])
 (.seq (.region [vM 18 6,
 ⟨none, some 19, .inr (.fn 139 [(.s 18)])⟩,
 vM 8 19])
 (.seq (.region [vM 20 1,
 vM 21 6,
 ⟨none, some 22, .inl (.bin .quo (.s 21) (.c (.int .i64 4)))⟩,
 ⟨none, some 23, .inl (.bin .mul (.s 22) (.c (.int .i64 2)))⟩,
 ⟨none, some 24, .inl (.bin .add (.s 20) (.s 23))⟩,
 ⟨none, some 25, .inl (.bin .sub (.s 24) (.c (.int .i64 1)))⟩,
 vM 9 25])
 (.block 0 (.loop k128l0)))))
 (.skip)))
def k129 : Cd :=
  .seq (.region [⟨none, some 6, .inl (.mv (.c (.int .i64 0)))⟩,
 ⟨none, some 7, .inl (.mv (.c (.int .i64 0)))⟩])
 (.seq (.region [vM 13 2,
 vM 14 1,
 ⟨none, some 15, .inl (.bin .sub (.s 13) (.s 14))⟩,
 vM 8 15])
 (.seq (.region [⟨none, some 9, .inl (.alloc 3 [(.int .i64 0)])⟩])
 (.seq (.region [vM 16 1,
 vM 17 8,
 ⟨none, some 18, .inl (.bin .quo (.s 17) (.c (.int .i64 4)))⟩,
 ⟨none, some 19, .inl (.bin .mul (.s 18) (.c (.int .i64 1)))⟩,
 ⟨none, some 20, .inl (.bin .add (.s 16) (.s 19))⟩,
 vM 10 20])
 (.seq (.region [vM 21 1,
 vM 22 8,
 ⟨none, some 23, .inl (.bin .quo (.s 22) (.c (.int .i64 4)))⟩,
 ⟨none, some 24, .inl (.bin .mul (.s 23) (.c (.int .i64 2)))⟩,
 ⟨none, some 25, .inl (.bin .add (.s 21) (.s 24))⟩,
 vM 11 25])
 (.seq (.region [vM 26 1,
 vM 27 8,
 ⟨none, some 28, .inl (.bin .quo (.s 27) (.c (.int .i64 4)))⟩,
 ⟨none, some 29, .inl (.bin .mul (.s 28) (.c (.int .i64 3)))⟩,
 ⟨none, some 30, .inl (.bin .add (.s 26) (.s 29))⟩,
 vM 12 30])
 (.seq (.seq (.region [vM 31 8,
 ⟨none, some 32, .inl (.bin .geq (.s 31) (.c (.int .i64 8)))⟩])
 (.cond (.s 32) (.seq (.seq (.region [vM 33 8,
 ⟨none, some 34, .inl (.bin .geq (.s 33) (.c (.int .i64 50)))⟩])
 (.cond (.s 34) (.seq (.region [vM 35 0,
 vM 36 10,
 ⟨none, some 37, .inr (.fn 141 [(.s 35), (.s 36), (.s 9)])⟩,
 vM 10 37])
 (.seq (.region [vM 38 0,
 vM 39 11,
 ⟨none, some 40, .inr (.fn 141 [(.s 38), (.s 39), (.s 9)])⟩,
 vM 11 40])
 (.region [vM 41 0,
 vM 42 12,
 ⟨none, some 43, .inr (.fn 141 [(.s 41), (.s 42), (.s 9)])⟩,
 vM 12 43])))
 (.skip)))
 (.region [vM 44 0,
 vM 45 10,
 vM 46 11,
 vM 47 12,
 ⟨none, some 48, .inr (.fn 142 [(.s 44), (.s 45), (.s 46), (.s 47), (.s 9)])⟩,
 vM 11 48]))
 (.skip)))
 (.seq (.region [vL 49 1 9])
 (.block 0 (.seq (.region [⟨none, some 52, .inl (.bin .eql (.s 49) (.c (.int .i64 0)))⟩,
 vM 51 52])
 (.cond (.s 51) (.seq (.region [vM 53 11,
 vM 6 53,
 ⟨none, some 7, .inl (.mv (.c (.int .i64 1)))⟩])
 (.ret))
 (.seq (.region [⟨none, some 55, .inl (.bin .eql (.s 49) (.c (.int .i64 12)))⟩,
 vM 54 55])
 (.cond (.s 54) (.seq (.region [vM 56 11,
 vM 6 56,
 ⟨none, some 7, .inl (.mv (.c (.int .i64 2)))⟩])
 (.ret))
 (.seq (.region [vM 50 11,
 vM 6 50,
 ⟨none, some 7, .inl (.mv (.c (.int .i64 0)))⟩])
 (.ret))))))))))))))
def k130l0 : Cd :=
  .seq (.seq (.region [vM 11 6,
 vM 12 7,
 ⟨none, some 13, .inl (.bin .lss (.s 11) (.s 12))⟩])
 (.cond (.s 13) (.skip)
 (.exit 0)))
 (.block 1 (.seq (.draw [⟨vM 14 0, some [], [], 0, false⟩,
 ⟨vM 15 6, some [], [], 0, false⟩,
 ⟨vM 16 0, some [], [], 0, false⟩,
 ⟨vM 17 7, some [], [], 0, false⟩,
 ⟨vM 18 0, some [], [], 0, false⟩,
 ⟨vM 19 7, some [], [], 0, false⟩,
 ⟨vI 20 1 18 19, some [], [], 48, false⟩,
 ⟨vL 21 1 20, some [], [], 112, false⟩,
 ⟨vM 22 0, some [], [], 0, false⟩,
 ⟨vM 23 6, some [], [], 0, false⟩,
 ⟨vI 24 1 22 23, some [], [], 768, false⟩,
 ⟨vL 25 1 24, some [], [], 1792, false⟩,
 ⟨vI 26 1 14 15, some [], [], 4083, false⟩,
 ⟨⟨none, none, .inl (.st 1 (.s 26) (.s 21))⟩, (some [.at 0]), [], 8179, false⟩,
 ⟨vI 27 1 16 17, some [], [], 16383, false⟩,
 ⟨⟨none, none, .inl (.st 1 (.s 27) (.s 25))⟩, (some [.at 0]), [], 32767, false⟩])
 (.seq (.region [vM 28 6,
 ⟨none, some 29, .inl (.bin .add (.s 28) (.c (.int .i64 1)))⟩,
 vM 6 29])
 (.region [vM 30 7,
 ⟨none, some 31, .inl (.bin .sub (.s 30) (.c (.int .i64 1)))⟩,
 vM 7 31]))))
def k130 : Cd :=
  .seq (.region [vM 8 1,
 vM 6 8])
 (.seq (.region [vM 9 2,
 ⟨none, some 10, .inl (.bin .sub (.s 9) (.c (.int .i64 1)))⟩,
 vM 7 10])
 (.block 0 (.loop k130l0)))
def k131l0 : Cd :=
  .seq (.seq (.draw [⟨vM 17 7, some [], [], 0, false⟩,
 ⟨vM 18 2, some [], [], 0, false⟩,
 ⟨⟨none, some 19, .inl (.bin .lss (.s 17) (.s 18))⟩, some [], [], 3, false⟩,
 ⟨vM 20 19, some [], [], 7, false⟩,
 ⟨⟨some (20, true), some 21, .inl (.mv (.s 0))⟩, some [], [], 15, false⟩,
 ⟨⟨some (20, true), some 22, .inl (.mv (.s 7))⟩, some [], [], 15, false⟩,
 ⟨⟨some (20, true), some 23, .inl (.ias 1 (.s 21) (.s 22))⟩, some [], [], 63, false⟩,
 ⟨⟨some (20, true), some 24, .inl (.ld false 1 (.s 23))⟩, some [], [], 127, false⟩,
 ⟨⟨some (20, true), some 25, .inl (.mv (.s 0))⟩, some [], [], 15, false⟩,
 ⟨⟨some (20, true), some 26, .inl (.mv (.s 7))⟩, some [], [], 15, false⟩,
 ⟨⟨some (20, true), some 27, .inl (.bin .sub (.s 26) (.c (.int .i64 1)))⟩, some [], [], 527, false⟩,
 ⟨⟨some (20, true), some 28, .inl (.ias 1 (.s 25) (.s 27))⟩, some [], [], 1807, false⟩,
 ⟨⟨some (20, true), some 29, .inl (.ld false 1 (.s 28))⟩, some [], [], 3855, false⟩,
 ⟨⟨some (20, true), some 30, .inr (.fn 117 [(.s 24), (.s 29)])⟩, some [], [], 8191, false⟩,
 ⟨⟨some (20, true), some 31, .inl (.not (.s 30))⟩, some [], [], 16383, false⟩,
 ⟨⟨none, some 32, .inl (.pick (.s 20) (.s 31) (.c (.bool false)))⟩, some [], [], 32767, false⟩])
 (.cond (.s 32) (.skip)
 (.exit 2)))
 (.block 3 (.region [vM 33 7,
 ⟨none, some 34, .inl (.bin .add (.s 33) (.c (.int .i64 1)))⟩,
 vM 7 34]))
def k131l1 : Cd :=
  .seq (.seq (.region [vM 64 9,
 ⟨none, some 65, .inl (.bin .geq (.s 64) (.c (.int .i64 1)))⟩])
 (.cond (.s 65) (.skip)
 (.exit 4)))
 (.seq (.block 5 (.seq (.seq (.draw [⟨vM 68 0, some [], [], 0, false⟩,
 ⟨vM 69 9, some [], [], 0, false⟩,
 ⟨vI 70 1 68 69, some [], [], 3, false⟩,
 ⟨vL 71 1 70, some [], [], 7, false⟩,
 ⟨vM 72 0, some [], [], 0, false⟩,
 ⟨vM 73 9, some [], [], 0, false⟩,
 ⟨⟨none, some 74, .inl (.bin .sub (.s 73) (.c (.int .i64 1)))⟩, some [], [], 32, false⟩,
 ⟨vI 75 1 72 74, some [], [], 112, false⟩,
 ⟨vL 76 1 75, some [], [], 240, false⟩,
 ⟨⟨none, some 77, .inr (.fn 117 [(.s 71), (.s 76)])⟩, some [], [], 511, false⟩,
 ⟨⟨none, some 78, .inl (.not (.s 77))⟩, some [], [], 1023, false⟩])
 (.cond (.s 78) (.exit 4)
 (.skip)))
 (.draw [⟨vM 79 0, some [], [], 0, false⟩,
 ⟨vM 80 9, some [], [], 0, false⟩,
 ⟨vM 81 0, some [], [], 0, false⟩,
 ⟨vM 82 9, some [], [], 0, false⟩,
 ⟨⟨none, some 83, .inl (.bin .sub (.s 82) (.c (.int .i64 1)))⟩, some [], [], 8, false⟩,
 ⟨vM 84 0, some [], [], 0, false⟩,
 ⟨vM 85 9, some [], [], 0, false⟩,
 ⟨⟨none, some 86, .inl (.bin .sub (.s 85) (.c (.int .i64 1)))⟩, some [], [], 64, false⟩,
 ⟨vI 87 1 84 86, some [], [], 224, false⟩,
 ⟨vL 88 1 87, some [], [], 480, false⟩,
 ⟨vM 89 0, some [], [], 0, false⟩,
 ⟨vM 90 9, some [], [], 0, false⟩,
 ⟨vI 91 1 89 90, some [], [], 3072, false⟩,
 ⟨vL 92 1 91, some [], [], 7168, false⟩,
 ⟨vI 93 1 79 80, some [], [], 16355, false⟩,
 ⟨⟨none, none, .inl (.st 1 (.s 93) (.s 88))⟩, (some [.at 0]), [], 32739, false⟩,
 ⟨vI 94 1 81 83, some [], [], 65535, false⟩,
 ⟨⟨none, none, .inl (.st 1 (.s 94) (.s 92))⟩, (some [.at 0]), [], 131071, false⟩])))
 (.region [vM 66 9,
 ⟨none, some 67, .inl (.bin .sub (.s 66) (.c (.int .i64 1)))⟩,
 vM 9 67]))
def k131l2 : Cd :=
  .seq (.seq (.region [vM 101 10,
 vM 102 2,
 ⟨none, some 103, .inl (.bin .lss (.s 101) (.s 102))⟩])
 (.cond (.s 103) (.skip)
 (.exit 6)))
 (.seq (.block 7 (.seq (.seq (.draw [⟨vM 106 0, some [], [], 0, false⟩,
 ⟨vM 107 10, some [], [], 0, false⟩,
 ⟨vI 108 1 106 107, some [], [], 3, false⟩,
 ⟨vL 109 1 108, some [], [], 7, false⟩,
 ⟨vM 110 0, some [], [], 0, false⟩,
 ⟨vM 111 10, some [], [], 0, false⟩,
 ⟨⟨none, some 112, .inl (.bin .sub (.s 111) (.c (.int .i64 1)))⟩, some [], [], 32, false⟩,
 ⟨vI 113 1 110 112, some [], [], 112, false⟩,
 ⟨vL 114 1 113, some [], [], 240, false⟩,
 ⟨⟨none, some 115, .inr (.fn 117 [(.s 109), (.s 114)])⟩, some [], [], 511, false⟩,
 ⟨⟨none, some 116, .inl (.not (.s 115))⟩, some [], [], 1023, false⟩])
 (.cond (.s 116) (.exit 6)
 (.skip)))
 (.draw [⟨vM 117 0, some [], [], 0, false⟩,
 ⟨vM 118 10, some [], [], 0, false⟩,
 ⟨vM 119 0, some [], [], 0, false⟩,
 ⟨vM 120 10, some [], [], 0, false⟩,
 ⟨⟨none, some 121, .inl (.bin .sub (.s 120) (.c (.int .i64 1)))⟩, some [], [], 8, false⟩,
 ⟨vM 122 0, some [], [], 0, false⟩,
 ⟨vM 123 10, some [], [], 0, false⟩,
 ⟨⟨none, some 124, .inl (.bin .sub (.s 123) (.c (.int .i64 1)))⟩, some [], [], 64, false⟩,
 ⟨vI 125 1 122 124, some [], [], 224, false⟩,
 ⟨vL 126 1 125, some [], [], 480, false⟩,
 ⟨vM 127 0, some [], [], 0, false⟩,
 ⟨vM 128 10, some [], [], 0, false⟩,
 ⟨vI 129 1 127 128, some [], [], 3072, false⟩,
 ⟨vL 130 1 129, some [], [], 7168, false⟩,
 ⟨vI 131 1 117 118, some [], [], 16355, false⟩,
 ⟨⟨none, none, .inl (.st 1 (.s 131) (.s 126))⟩, (some [.at 0]), [], 32739, false⟩,
 ⟨vI 132 1 119 121, some [], [], 65535, false⟩,
 ⟨⟨none, none, .inl (.st 1 (.s 132) (.s 130))⟩, (some [.at 0]), [], 131071, false⟩])))
 (.region [vM 104 10,
 ⟨none, some 105, .inl (.bin .add (.s 104) (.c (.int .i64 1)))⟩,
 vM 10 105]))
def k131l3 : Cd :=
  .seq (.seq (.region [vM 13 8,
 ⟨none, some 14, .inl (.bin .lss (.s 13) (.c (.int .i64 5)))⟩])
 (.cond (.s 14) (.skip)
 (.exit 0)))
 (.seq (.block 1 (.seq (.block 2 (.loop k131l0))
 (.seq (.seq (.region [vM 35 7,
 vM 36 2,
 ⟨none, some 37, .inl (.bin .eql (.s 35) (.s 36))⟩])
 (.cond (.s 37) (.seq (.region [⟨none, some 6, .inl (.mv (.c (.bool true)))⟩])
 (.ret))
 (.skip)))
 (.seq (.seq (.region [vM 38 2,
 vM 39 1,
 ⟨none, some 40, .inl (.bin .sub (.s 38) (.s 39))⟩,
 ⟨none, some 41, .inl (.bin .lss (.s 40) (.c (.int .i64 50)))⟩])
 (.cond (.s 41) (.seq (.region [⟨none, some 6, .inl (.mv (.c (.bool false)))⟩])
 (.ret))
 (.skip)))
 (.seq (.draw [⟨vM 42 0, some [], [], 0, false⟩,
 ⟨vM 43 7, some [], [], 0, false⟩,
 ⟨vM 44 0, some [], [], 0, false⟩,
 ⟨vM 45 7, some [], [], 0, false⟩,
 ⟨⟨none, some 46, .inl (.bin .sub (.s 45) (.c (.int .i64 1)))⟩, some [], [], 8, false⟩,
 ⟨vM 47 0, some [], [], 0, false⟩,
 ⟨vM 48 7, some [], [], 0, false⟩,
 ⟨⟨none, some 49, .inl (.bin .sub (.s 48) (.c (.int .i64 1)))⟩, some [], [], 64, false⟩,
 ⟨vI 50 1 47 49, some [], [], 224, false⟩,
 ⟨vL 51 1 50, some [], [], 480, false⟩,
 ⟨vM 52 0, some [], [], 0, false⟩,
 ⟨vM 53 7, some [], [], 0, false⟩,
 ⟨vI 54 1 52 53, some [], [], 3072, false⟩,
 ⟨vL 55 1 54, some [], [], 7168, false⟩,
 ⟨vI 56 1 42 43, some [], [], 16355, false⟩,
 ⟨⟨none, none, .inl (.st 1 (.s 56) (.s 51))⟩, (some [.at 0]), [], 32739, false⟩,
 ⟨vI 57 1 44 46, some [], [], 65535, false⟩,
 ⟨⟨none, none, .inl (.st 1 (.s 57) (.s 55))⟩, (some [.at 0]), [], 131071, false⟩])
 (.seq (.seq (.region [vM 58 7,
 vM 59 1,
 ⟨none, some 60, .inl (.bin .sub (.s 58) (.s 59))⟩,
 ⟨none, some 61, .inl (.bin .geq (.s 60) (.c (.int .i64 2)))⟩])
 (.cond (.s 61) (.seq (.region [vM 62 7,
 ⟨none, some 63, .inl (.bin .sub (.s 62) (.c (.int .i64 1)))⟩,
 vM 9 63])
 (.block 4 (.loop k131l1)))
 (.skip)))
 (.seq (.region [vM 95 2,
 vM 96 7,
 ⟨none, some 97, .inl (.bin .sub (.s 95) (.s 96))⟩,
 ⟨none, some 98, .inl (.bin .geq (.s 97) (.c (.int .i64 2)))⟩])
 (.cond (.s 98) (.seq (.region [vM 99 7,
 ⟨none, some 100, .inl (.bin .add (.s 99) (.c (.int .i64 1)))⟩,
 vM 10 100])
 (.block 6 (.loop k131l2)))
 (.skip)))))))))
 (.region [vM 15 8,
 ⟨none, some 16, .inl (.bin .add (.s 15) (.c (.int .i64 1)))⟩,
 vM 8 16]))
def k131 : Cd :=
  .seq (.region [⟨none, some 6, .inl (.mv (.c (.bool false)))⟩])
 (.seq (.region [vM 11 1,
 ⟨none, some 12, .inl (.bin .add (.s 11) (.c (.int .i64 1)))⟩,
 vM 7 12])
 (.seq (.seq (.region [⟨none, some 8, .inl (.mv (.c (.int .i64 0)))⟩])
 (.block 0 (.loop k131l3)))
 (.seq (.region [⟨none, some 6, .inl (.mv (.c (.bool false)))⟩])
 (.ret))))
def k132l0 : Cd :=
  .seq (.seq (.draw [⟨vM 29 9, some [], [], 0, false⟩,
 ⟨vM 30 10, some [], [], 0, false⟩,
 ⟨⟨none, some 31, .inl (.bin .leq (.s 29) (.s 30))⟩, some [], [], 3, false⟩,
 ⟨vM 32 31, some [], [], 7, false⟩,
 ⟨⟨some (32, true), some 33, .inl (.mv (.s 0))⟩, some [], [], 15, false⟩,
 ⟨⟨some (32, true), some 34, .inl (.mv (.s 1))⟩, some [], [], 15, false⟩,
 ⟨⟨some (32, true), some 35, .inl (.ias 1 (.s 33) (.s 34))⟩, some [], [], 63, false⟩,
 ⟨⟨some (32, true), some 36, .inl (.ld false 1 (.s 35))⟩, some [], [], 127, false⟩,
 ⟨⟨some (32, true), some 37, .inl (.mv (.s 0))⟩, some [], [], 15, false⟩,
 ⟨⟨some (32, true), some 38, .inl (.mv (.s 9))⟩, some [], [], 15, false⟩,
 ⟨⟨some (32, true), some 39, .inl (.ias 1 (.s 37) (.s 38))⟩, some [], [], 783, false⟩,
 ⟨⟨some (32, true), some 40, .inl (.ld false 1 (.s 39))⟩, some [], [], 1807, false⟩,
 ⟨⟨some (32, true), some 41, .inr (.fn 117 [(.s 36), (.s 40)])⟩, some [], [], 4095, false⟩,
 ⟨⟨some (32, true), some 42, .inl (.not (.s 41))⟩, some [], [], 8191, false⟩,
 ⟨⟨none, some 43, .inl (.pick (.s 32) (.s 42) (.c (.bool false)))⟩, some [], [], 16383, false⟩])
 (.cond (.s 43) (.skip)
 (.exit 2)))
 (.block 3 (.region [vM 44 9,
 ⟨none, some 45, .inl (.bin .add (.s 44) (.c (.int .i64 1)))⟩,
 vM 9 45]))
def k132l1 : Cd :=
  .seq (.seq (.draw [⟨vM 46 9, some [], [], 0, false⟩,
 ⟨vM 47 10, some [], [], 0, false⟩,
 ⟨⟨none, some 48, .inl (.bin .leq (.s 46) (.s 47))⟩, some [], [], 3, false⟩,
 ⟨vM 49 48, some [], [], 7, false⟩,
 ⟨⟨some (49, true), some 50, .inl (.mv (.s 0))⟩, some [], [], 15, false⟩,
 ⟨⟨some (49, true), some 51, .inl (.mv (.s 1))⟩, some [], [], 15, false⟩,
 ⟨⟨some (49, true), some 52, .inl (.ias 1 (.s 50) (.s 51))⟩, some [], [], 63, false⟩,
 ⟨⟨some (49, true), some 53, .inl (.ld false 1 (.s 52))⟩, some [], [], 127, false⟩,
 ⟨⟨some (49, true), some 54, .inl (.mv (.s 0))⟩, some [], [], 15, false⟩,
 ⟨⟨some (49, true), some 55, .inl (.mv (.s 10))⟩, some [], [], 15, false⟩,
 ⟨⟨some (49, true), some 56, .inl (.ias 1 (.s 54) (.s 55))⟩, some [], [], 783, false⟩,
 ⟨⟨some (49, true), some 57, .inl (.ld false 1 (.s 56))⟩, some [], [], 1807, false⟩,
 ⟨⟨some (49, true), some 58, .inr (.fn 117 [(.s 53), (.s 57)])⟩, some [], [], 4095, false⟩,
 ⟨⟨none, some 59, .inl (.pick (.s 49) (.s 58) (.c (.bool false)))⟩, some [], [], 8191, false⟩])
 (.cond (.s 59) (.skip)
 (.exit 4)))
 (.block 5 (.region [vM 60 10,
 ⟨none, some 61, .inl (.bin .sub (.s 60) (.c (.int .i64 1)))⟩,
 vM 10 61]))
def k132l2 : Cd :=
  .block 1 (.seq (.block 2 (.loop k132l0))
 (.seq (.block 4 (.loop k132l1))
 (.seq (.seq (.region [vM 62 9,
 vM 63 10,
 ⟨none, some 64, .inl (.bin .gtr (.s 62) (.s 63))⟩])
 (.cond (.s 64) (.exit 0)
 (.skip)))
 (.seq (.draw [⟨vM 65 0, some [], [], 0, false⟩,
 ⟨vM 66 9, some [], [], 0, false⟩,
 ⟨vM 67 0, some [], [], 0, false⟩,
 ⟨vM 68 10, some [], [], 0, false⟩,
 ⟨vM 69 0, some [], [], 0, false⟩,
 ⟨vM 70 10, some [], [], 0, false⟩,
 ⟨vI 71 1 69 70, some [], [], 48, false⟩,
 ⟨vL 72 1 71, some [], [], 112, false⟩,
 ⟨vM 73 0, some [], [], 0, false⟩,
 ⟨vM 74 9, some [], [], 0, false⟩,
 ⟨vI 75 1 73 74, some [], [], 768, false⟩,
 ⟨vL 76 1 75, some [], [], 1792, false⟩,
 ⟨vI 77 1 65 66, some [], [], 4083, false⟩,
 ⟨⟨none, none, .inl (.st 1 (.s 77) (.s 72))⟩, (some [.at 0]), [], 8179, false⟩,
 ⟨vI 78 1 67 68, some [], [], 16383, false⟩,
 ⟨⟨none, none, .inl (.st 1 (.s 78) (.s 76))⟩, (some [.at 0]), [], 32767, false⟩])
 (.seq (.region [vM 79 9,
 ⟨none, some 80, .inl (.bin .add (.s 79) (.c (.int .i64 1)))⟩,
 vM 9 80])
 (.region [vM 81 10,
 ⟨none, some 82, .inl (.bin .sub (.s 81) (.c (.int .i64 1)))⟩,
 vM 10 82]))))))
def k132 : Cd :=
  .seq (.region [⟨none, some 8, .inl (.mv (.c (.int .i64 0)))⟩])
 (.seq (.draw [⟨vM 11 0, some [], [], 0, false⟩,
 ⟨vM 12 1, some [], [], 0, false⟩,
 ⟨vM 13 0, some [], [], 0, false⟩,
 ⟨vM 14 3, some [], [], 0, false⟩,
 ⟨vM 15 0, some [], [], 0, false⟩,
 ⟨vM 16 3, some [], [], 0, false⟩,
 ⟨vI 17 1 15 16, some [], [], 48, false⟩,
 ⟨vL 18 1 17, some [], [], 112, false⟩,
 ⟨vM 19 0, some [], [], 0, false⟩,
 ⟨vM 20 1, some [], [], 0, false⟩,
 ⟨vI 21 1 19 20, some [], [], 768, false⟩,
 ⟨vL 22 1 21, some [], [], 1792, false⟩,
 ⟨vI 23 1 11 12, some [], [], 4083, false⟩,
 ⟨⟨none, none, .inl (.st 1 (.s 23) (.s 18))⟩, (some [.at 0]), [], 8179, false⟩,
 ⟨vI 24 1 13 14, some [], [], 16383, false⟩,
 ⟨⟨none, none, .inl (.st 1 (.s 24) (.s 22))⟩, (some [.at 0]), [], 32767, false⟩])
 (.seq (.region [vM 25 1,
 ⟨none, some 26, .inl (.bin .add (.s 25) (.c (.int .i64 1)))⟩,
 vM 27 2,
 ⟨none, some 28, .inl (.bin .sub (.s 27) (.c (.int .i64 1)))⟩,
 vM 9 26,
 vM 10 28])
 (.seq (.block 0 (.loop k132l2))
 (.seq (.region [vM 83 9,
 vM 8 83])
 (.ret)))))
def k133l0 : Cd :=
  .seq (.seq (.draw [⟨vM 30 10, some [], [], 0, false⟩,
 ⟨vM 31 11, some [], [], 0, false⟩,
 ⟨⟨none, some 32, .inl (.bin .leq (.s 30) (.s 31))⟩, some [], [], 3, false⟩,
 ⟨vM 33 32, some [], [], 7, false⟩,
 ⟨⟨some (33, true), some 34, .inl (.mv (.s 0))⟩, some [], [], 15, false⟩,
 ⟨⟨some (33, true), some 35, .inl (.mv (.s 10))⟩, some [], [], 15, false⟩,
 ⟨⟨some (33, true), some 36, .inl (.ias 1 (.s 34) (.s 35))⟩, some [], [], 63, false⟩,
 ⟨⟨some (33, true), some 37, .inl (.ld false 1 (.s 36))⟩, some [], [], 127, false⟩,
 ⟨⟨some (33, true), some 38, .inl (.mv (.s 0))⟩, some [], [], 15, false⟩,
 ⟨⟨some (33, true), some 39, .inl (.mv (.s 1))⟩, some [], [], 15, false⟩,
 ⟨⟨some (33, true), some 40, .inl (.ias 1 (.s 38) (.s 39))⟩, some [], [], 783, false⟩,
 ⟨⟨some (33, true), some 41, .inl (.ld false 1 (.s 40))⟩, some [], [], 1807, false⟩,
 ⟨⟨some (33, true), some 42, .inr (.fn 117 [(.s 37), (.s 41)])⟩, some [], [], 4095, false⟩,
 ⟨⟨none, some 43, .inl (.pick (.s 33) (.s 42) (.c (.bool false)))⟩, some [], [], 8191, false⟩])
 (.cond (.s 43) (.skip)
 (.exit 0)))
 (.block 1 (.region [vM 44 10,
 ⟨none, some 45, .inl (.bin .add (.s 44) (.c (.int .i64 1)))⟩,
 vM 10 45]))
def k133l1 : Cd :=
  .seq (.seq (.draw [⟨vM 46 10, some [], [], 0, false⟩,
 ⟨vM 47 11, some [], [], 0, false⟩,
 ⟨⟨none, some 48, .inl (.bin .leq (.s 46) (.s 47))⟩, some [], [], 3, false⟩,
 ⟨vM 49 48, some [], [], 7, false⟩,
 ⟨⟨some (49, true), some 50, .inl (.mv (.s 0))⟩, some [], [], 15, false⟩,
 ⟨⟨some (49, true), some 51, .inl (.mv (.s 11))⟩, some [], [], 15, false⟩,
 ⟨⟨some (49, true), some 52, .inl (.ias 1 (.s 50) (.s 51))⟩, some [], [], 63, false⟩,
 ⟨⟨some (49, true), some 53, .inl (.ld false 1 (.s 52))⟩, some [], [], 127, false⟩,
 ⟨⟨some (49, true), some 54, .inl (.mv (.s 0))⟩, some [], [], 15, false⟩,
 ⟨⟨some (49, true), some 55, .inl (.mv (.s 1))⟩, some [], [], 15, false⟩,
 ⟨⟨some (49, true), some 56, .inl (.ias 1 (.s 54) (.s 55))⟩, some [], [], 783, false⟩,
 ⟨⟨some (49, true), some 57, .inl (.ld false 1 (.s 56))⟩, some [], [], 1807, false⟩,
 ⟨⟨some (49, true), some 58, .inr (.fn 117 [(.s 53), (.s 57)])⟩, some [], [], 4095, false⟩,
 ⟨⟨some (49, true), some 59, .inl (.not (.s 58))⟩, some [], [], 8191, false⟩,
 ⟨⟨none, some 60, .inl (.pick (.s 49) (.s 59) (.c (.bool false)))⟩, some [], [], 16383, false⟩])
 (.cond (.s 60) (.skip)
 (.exit 2)))
 (.block 3 (.region [vM 61 11,
 ⟨none, some 62, .inl (.bin .sub (.s 61) (.c (.int .i64 1)))⟩,
 vM 11 62]))
def k133l2 : Cd :=
  .seq (.seq (.draw [⟨vM 99 10, some [], [], 0, false⟩,
 ⟨vM 100 11, some [], [], 0, false⟩,
 ⟨⟨none, some 101, .inl (.bin .leq (.s 99) (.s 100))⟩, some [], [], 3, false⟩,
 ⟨vM 102 101, some [], [], 7, false⟩,
 ⟨⟨some (102, true), some 103, .inl (.mv (.s 0))⟩, some [], [], 15, false⟩,
 ⟨⟨some (102, true), some 104, .inl (.mv (.s 10))⟩, some [], [], 15, false⟩,
 ⟨⟨some (102, true), some 105, .inl (.ias 1 (.s 103) (.s 104))⟩, some [], [], 63, false⟩,
 ⟨⟨some (102, true), some 106, .inl (.ld false 1 (.s 105))⟩, some [], [], 127, false⟩,
 ⟨⟨some (102, true), some 107, .inl (.mv (.s 0))⟩, some [], [], 15, false⟩,
 ⟨⟨some (102, true), some 108, .inl (.mv (.s 1))⟩, some [], [], 15, false⟩,
 ⟨⟨some (102, true), some 109, .inl (.ias 1 (.s 107) (.s 108))⟩, some [], [], 783, false⟩,
 ⟨⟨some (102, true), some 110, .inl (.ld false 1 (.s 109))⟩, some [], [], 1807, false⟩,
 ⟨⟨some (102, true), some 111, .inr (.fn 117 [(.s 106), (.s 110)])⟩, some [], [], 4095, false⟩,
 ⟨⟨none, some 112, .inl (.pick (.s 102) (.s 111) (.c (.bool false)))⟩, some [], [], 8191, false⟩])
 (.cond (.s 112) (.skip)
 (.exit 6)))
 (.block 7 (.region [vM 113 10,
 ⟨none, some 114, .inl (.bin .add (.s 113) (.c (.int .i64 1)))⟩,
 vM 10 114]))
def k133l3 : Cd :=
  .seq (.seq (.draw [⟨vM 115 10, some [], [], 0, false⟩,
 ⟨vM 116 11, some [], [], 0, false⟩,
 ⟨⟨none, some 117, .inl (.bin .leq (.s 115) (.s 116))⟩, some [], [], 3, false⟩,
 ⟨vM 118 117, some [], [], 7, false⟩,
 ⟨⟨some (118, true), some 119, .inl (.mv (.s 0))⟩, some [], [], 15, false⟩,
 ⟨⟨some (118, true), some 120, .inl (.mv (.s 11))⟩, some [], [], 15, false⟩,
 ⟨⟨some (118, true), some 121, .inl (.ias 1 (.s 119) (.s 120))⟩, some [], [], 63, false⟩,
 ⟨⟨some (118, true), some 122, .inl (.ld false 1 (.s 121))⟩, some [], [], 127, false⟩,
 ⟨⟨some (118, true), some 123, .inl (.mv (.s 0))⟩, some [], [], 15, false⟩,
 ⟨⟨some (118, true), some 124, .inl (.mv (.s 1))⟩, some [], [], 15, false⟩,
 ⟨⟨some (118, true), some 125, .inl (.ias 1 (.s 123) (.s 124))⟩, some [], [], 783, false⟩,
 ⟨⟨some (118, true), some 126, .inl (.ld false 1 (.s 125))⟩, some [], [], 1807, false⟩,
 ⟨⟨some (118, true), some 127, .inr (.fn 117 [(.s 122), (.s 126)])⟩, some [], [], 4095, false⟩,
 ⟨⟨some (118, true), some 128, .inl (.not (.s 127))⟩, some [], [], 8191, false⟩,
 ⟨⟨none, some 129, .inl (.pick (.s 118) (.s 128) (.c (.bool false)))⟩, some [], [], 16383, false⟩])
 (.cond (.s 129) (.skip)
 (.exit 8)))
 (.block 9 (.region [vM 130 11,
 ⟨none, some 131, .inl (.bin .sub (.s 130) (.c (.int .i64 1)))⟩,
 vM 11 131]))
def k133l4 : Cd :=
  .block 5 (.seq (.block 6 (.loop k133l2))
 (.seq (.block 8 (.loop k133l3))
 (.seq (.seq (.region [vM 132 10,
 vM 133 11,
 ⟨none, some 134, .inl (.bin .gtr (.s 132) (.s 133))⟩])
 (.cond (.s 134) (.exit 4)
 (.skip)))
 (.seq (.draw [⟨vM 135 0, some [], [], 0, false⟩,
 ⟨vM 136 10, some [], [], 0, false⟩,
 ⟨vM 137 0, some [], [], 0, false⟩,
 ⟨vM 138 11, some [], [], 0, false⟩,
 ⟨vM 139 0, some [], [], 0, false⟩,
 ⟨vM 140 11, some [], [], 0, false⟩,
 ⟨vI 141 1 139 140, some [], [], 48, false⟩,
 ⟨vL 142 1 141, some [], [], 112, false⟩,
 ⟨vM 143 0, some [], [], 0, false⟩,
 ⟨vM 144 10, some [], [], 0, false⟩,
 ⟨vI 145 1 143 144, some [], [], 768, false⟩,
 ⟨vL 146 1 145, some [], [], 1792, false⟩,
 ⟨vI 147 1 135 136, some [], [], 4083, false⟩,
 ⟨⟨none, none, .inl (.st 1 (.s 147) (.s 142))⟩, (some [.at 0]), [], 8179, false⟩,
 ⟨vI 148 1 137 138, some [], [], 16383, false⟩,
 ⟨⟨none, none, .inl (.st 1 (.s 148) (.s 146))⟩, (some [.at 0]), [], 32767, false⟩])
 (.seq (.region [vM 149 10,
 ⟨none, some 150, .inl (.bin .add (.s 149) (.c (.int .i64 1)))⟩,
 vM 10 150])
 (.region [vM 151 11,
 ⟨none, some 152, .inl (.bin .sub (.s 151) (.c (.int .i64 1)))⟩,
 vM 11 152]))))))
def k133 : Cd :=
  .seq (.region [⟨none, some 8, .inl (.mv (.c (.int .i64 0)))⟩,
 ⟨none, some 9, .inl (.mv (.c (.bool false)))⟩])
 (.seq (.draw [⟨vM 12 0, some [], [], 0, false⟩,
 ⟨vM 13 1, some [], [], 0, false⟩,
 ⟨vM 14 0, some [], [], 0, false⟩,
 ⟨vM 15 3, some [], [], 0, false⟩,
 ⟨vM 16 0, some [], [], 0, false⟩,
 ⟨vM 17 3, some [], [], 0, false⟩,
 ⟨vI 18 1 16 17, some [], [], 48, false⟩,
 ⟨vL 19 1 18, some [], [], 112, false⟩,
 ⟨vM 20 0, some [], [], 0, false⟩,
 ⟨vM 21 1, some [], [], 0, false⟩,
 ⟨vI 22 1 20 21, some [], [], 768, false⟩,
 ⟨vL 23 1 22, some [], [], 1792, false⟩,
 ⟨vI 24 1 12 13, some [], [], 4083, false⟩,
 ⟨⟨none, none, .inl (.st 1 (.s 24) (.s 19))⟩, (some [.at 0]), [], 8179, false⟩,
 ⟨vI 25 1 14 15, some [], [], 16383, false⟩,
 ⟨⟨none, none, .inl (.st 1 (.s 25) (.s 23))⟩, (some [.at 0]), [], 32767, false⟩])
 (.seq (.region [vM 26 1,
 ⟨none, some 27, .inl (.bin .add (.s 26) (.c (.int .i64 1)))⟩,
 vM 28 2,
 ⟨none, some 29, .inl (.bin .sub (.s 28) (.c (.int .i64 1)))⟩,
 vM 10 27,
 vM 11 29])
 (.seq (.block 0 (.loop k133l0))
 (.seq (.block 2 (.loop k133l1))
 (.seq (.seq (.region [vM 63 10,
 vM 64 11,
 ⟨none, some 65, .inl (.bin .gtr (.s 63) (.s 64))⟩])
 (.cond (.s 65) (.seq (.draw [⟨vM 66 0, some [], [], 0, false⟩,
 ⟨vM 67 11, some [], [], 0, false⟩,
 ⟨vM 68 0, some [], [], 0, false⟩,
 ⟨vM 69 1, some [], [], 0, false⟩,
 ⟨vM 70 0, some [], [], 0, false⟩,
 ⟨vM 71 1, some [], [], 0, false⟩,
 ⟨vI 72 1 70 71, some [], [], 48, false⟩,
 ⟨vL 73 1 72, some [], [], 112, false⟩,
 ⟨vM 74 0, some [], [], 0, false⟩,
 ⟨vM 75 11, some [], [], 0, false⟩,
 ⟨vI 76 1 74 75, some [], [], 768, false⟩,
 ⟨vL 77 1 76, some [], [], 1792, false⟩,
 ⟨vI 78 1 66 67, some [], [], 4083, false⟩,
 ⟨⟨none, none, .inl (.st 1 (.s 78) (.s 73))⟩, (some [.at 0]), [], 8179, false⟩,
 ⟨vI 79 1 68 69, some [], [], 16383, false⟩,
 ⟨⟨none, none, .inl (.st 1 (.s 79) (.s 77))⟩, (some [.at 0]), [], 32767, false⟩])
 (.seq (.region [vM 80 11,
 vM 8 80,
 ⟨none, some 9, .inl (.mv (.c (.bool true)))⟩])
 (.ret)))
 (.skip)))
 (.seq (.draw [⟨vM 81 0, some [], [], 0, false⟩,
 ⟨vM 82 10, some [], [], 0, false⟩,
 ⟨vM 83 0, some [], [], 0, false⟩,
 ⟨vM 84 11, some [], [], 0, false⟩,
 ⟨vM 85 0, some [], [], 0, false⟩,
 ⟨vM 86 11, some [], [], 0, false⟩,
 ⟨vI 87 1 85 86, some [], [], 48, false⟩,
 ⟨vL 88 1 87, some [], [], 112, false⟩,
 ⟨vM 89 0, some [], [], 0, false⟩,
 ⟨vM 90 10, some [], [], 0, false⟩,
 ⟨vI 91 1 89 90, some [], [], 768, false⟩,
 ⟨vL 92 1 91, some [], [], 1792, false⟩,
 ⟨vI 93 1 81 82, some [], [], 4083, false⟩,
 ⟨⟨none, none, .inl (.st 1 (.s 93) (.s 88))⟩, (some [.at 0]), [], 8179, false⟩,
 ⟨vI 94 1 83 84, some [], [], 16383, false⟩,
 ⟨⟨none, none, .inl (.st 1 (.s 94) (.s 92))⟩, (some [.at 0]), [], 32767, false⟩])
 (.seq (.region [vM 95 10,
 ⟨none, some 96, .inl (.bin .add (.s 95) (.c (.int .i64 1)))⟩,
 vM 10 96])
 (.seq (.region [vM 97 11,
 ⟨none, some 98, .inl (.bin .sub (.s 97) (.c (.int .i64 1)))⟩,
 vM 11 98])
 (.seq (.block 4 (.loop k133l4))
 (.seq (.draw [⟨vM 153 0, some [], [], 0, false⟩,
 ⟨vM 154 11, some [], [], 0, false⟩,
 ⟨vM 155 0, some [], [], 0, false⟩,
 ⟨vM 156 1, some [], [], 0, false⟩,
 ⟨vM 157 0, some [], [], 0, false⟩,
 ⟨vM 158 1, some [], [], 0, false⟩,
 ⟨vI 159 1 157 158, some [], [], 48, false⟩,
 ⟨vL 160 1 159, some [], [], 112, false⟩,
 ⟨vM 161 0, some [], [], 0, false⟩,
 ⟨vM 162 11, some [], [], 0, false⟩,
 ⟨vI 163 1 161 162, some [], [], 768, false⟩,
 ⟨vL 164 1 163, some [], [], 1792, false⟩,
 ⟨vI 165 1 153 154, some [], [], 4083, false⟩,
 ⟨⟨none, none, .inl (.st 1 (.s 165) (.s 160))⟩, (some [.at 0]), [], 8179, false⟩,
 ⟨vI 166 1 155 156, some [], [], 16383, false⟩,
 ⟨⟨none, none, .inl (.st 1 (.s 166) (.s 164))⟩, (some [.at 0]), [], 32767, false⟩])
 (.seq (.region [vM 167 11,
 vM 8 167,
 ⟨none, some 9, .inl (.mv (.c (.bool false)))⟩])
 (.ret))))))))))))
def k134 : Cd :=
  .seq (.region [⟨none, some 2, .inl (.mv (.c (.int .i64 0)))⟩])
 (.seq (.seq (.region [vM 3 0,
 ⟨none, some 4, .inl (.bin .geq (.s 3) (.c (.int .u32 65536)))⟩])
 (.cond (.s 4) (.seq (.region [vM 5 0,
 ⟨none, some 6, .inl (.bin .shr (.s 5) (.c (.int .u64 16)))⟩,
 vM 0 6])
 (.region [⟨none, some 2, .inl (.mv (.c (.int .i64 16)))⟩]))
 (.skip)))
 (.seq (.seq (.region [vM 7 0,
 ⟨none, some 8, .inl (.bin .geq (.s 7) (.c (.int .u32 256)))⟩])
 (.cond (.s 8) (.seq (.region [vM 9 0,
 ⟨none, some 10, .inl (.bin .shr (.s 9) (.c (.int .u64 8)))⟩,
 vM 0 10])
 (.region [vM 11 2,
 ⟨none, some 12, .inl (.bin .add (.s 11) (.c (.int .i64 8)))⟩,
 vM 2 12]))
 (.skip)))
 (.seq (.region [vM 13 2,
 vM 14 0,
 ⟨none, some 15, .inl (.cvi .u8 (.s 14))⟩,
 ⟨none, some 16, .inl (.ixs (.c (.string ⟨#[0, 1, 2, 2, 3, 3, 3, 3, 4, 4, 4, 4, 4, 4, 4, 4, 5, 5, 5, 5, 5, 5, 5, 5, 5, 5, 5, 5, 5, 5, 5, 5, 6, 6, 6, 6, 6, 6, 6, 6, 6, 6, 6, 6, 6, 6, 6, 6, 6, 6, 6, 6, 6, 6, 6, 6, 6, 6, 6, 6, 6, 6, 6, 6, 7, 7, 7, 7, 7, 7, 7, 7, 7, 7, 7, 7, 7, 7, 7, 7, 7, 7, 7, 7, 7, 7, 7, 7, 7, 7, 7, 7, 7, 7, 7, 7, 7, 7, 7, 7, 7, 7, 7, 7, 7, 7, 7, 7, 7, 7, 7, 7, 7, 7, 7, 7, 7, 7, 7, 7, 7, 7, 7, 7, 7, 7, 7, 7, 8, 8, 8, 8, 8, 8, 8, 8, 8, 8, 8, 8, 8, 8, 8, 8, 8, 8, 8, 8, 8, 8, 8, 8, 8, 8, 8, 8, 8, 8, 8, 8, 8, 8, 8, 8, 8, 8, 8, 8, 8, 8, 8, 8, 8, 8, 8, 8, 8, 8, 8, 8, 8, 8, 8, 8, 8, 8, 8, 8, 8, 8, 8, 8, 8, 8, 8, 8, 8, 8, 8, 8, 8, 8, 8, 8, 8, 8, 8, 8, 8, 8, 8, 8, 8, 8, 8, 8, 8, 8, 8, 8, 8, 8, 8, 8, 8, 8, 8, 8, 8, 8, 8, 8, 8, 8, 8, 8, 8, 8, 8, 8, 8, 8, 8, 8, 8, 8, 8, 8, 8, 8, 8, 8, 8, 8, 8, 8]⟩)) (.s 15))⟩,
 ⟨none, some 17, .inl (.cvi .i64 (.s 16))⟩,
 ⟨none, some 18, .inl (.bin .add (.s 13) (.s 17))⟩,
 vM 2 18])
 (.ret))))
def k135 : Cd :=
  .seq (.region [⟨none, some 2, .inl (.mv (.c (.int .i64 0)))⟩])
 (.seq (.seq (.region [vM 3 0,
 ⟨none, some 4, .inl (.bin .geq (.s 3) (.c (.int .u64 4294967296)))⟩])
 (.cond (.s 4) (.seq (.region [vM 5 0,
 ⟨none, some 6, .inl (.bin .shr (.s 5) (.c (.int .u64 32)))⟩,
 vM 0 6])
 (.region [⟨none, some 2, .inl (.mv (.c (.int .i64 32)))⟩]))
 (.skip)))
 (.seq (.seq (.region [vM 7 0,
 ⟨none, some 8, .inl (.bin .geq (.s 7) (.c (.int .u64 65536)))⟩])
 (.cond (.s 8) (.seq (.region [vM 9 0,
 ⟨none, some 10, .inl (.bin .shr (.s 9) (.c (.int .u64 16)))⟩,
 vM 0 10])
 (.region [vM 11 2,
 ⟨none, some 12, .inl (.bin .add (.s 11) (.c (.int .i64 16)))⟩,
 vM 2 12]))
 (.skip)))
 (.seq (.seq (.region [vM 13 0,
 ⟨none, some 14, .inl (.bin .geq (.s 13) (.c (.int .u64 256)))⟩])
 (.cond (.s 14) (.seq (.region [vM 15 0,
 ⟨none, some 16, .inl (.bin .shr (.s 15) (.c (.int .u64 8)))⟩,
 vM 0 16])
 (.region [vM 17 2,
 ⟨none, some 18, .inl (.bin .add (.s 17) (.c (.int .i64 8)))⟩,
 vM 2 18]))
 (.skip)))
 (.seq (.region [vM 19 2,
 vM 20 0,
 ⟨none, some 21, .inl (.cvi .u8 (.s 20))⟩,
 ⟨none, some 22, .inl (.ixs (.c (.string ⟨#[0, 1, 2, 2, 3, 3, 3, 3, 4, 4, 4, 4, 4, 4, 4, 4, 5, 5, 5, 5, 5, 5, 5, 5, 5, 5, 5, 5, 5, 5, 5, 5, 6, 6, 6, 6, 6, 6, 6, 6, 6, 6, 6, 6, 6, 6, 6, 6, 6, 6, 6, 6, 6, 6, 6, 6, 6, 6, 6, 6, 6, 6, 6, 6, 7, 7, 7, 7, 7, 7, 7, 7, 7, 7, 7, 7, 7, 7, 7, 7, 7, 7, 7, 7, 7, 7, 7, 7, 7, 7, 7, 7, 7, 7, 7, 7, 7, 7, 7, 7, 7, 7, 7, 7, 7, 7, 7, 7, 7, 7, 7, 7, 7, 7, 7, 7, 7, 7, 7, 7, 7, 7, 7, 7, 7, 7, 7, 7, 8, 8, 8, 8, 8, 8, 8, 8, 8, 8, 8, 8, 8, 8, 8, 8, 8, 8, 8, 8, 8, 8, 8, 8, 8, 8, 8, 8, 8, 8, 8, 8, 8, 8, 8, 8, 8, 8, 8, 8, 8, 8, 8, 8, 8, 8, 8, 8, 8, 8, 8, 8, 8, 8, 8, 8, 8, 8, 8, 8, 8, 8, 8, 8, 8, 8, 8, 8, 8, 8, 8, 8, 8, 8, 8, 8, 8, 8, 8, 8, 8, 8, 8, 8, 8, 8, 8, 8, 8, 8, 8, 8, 8, 8, 8, 8, 8, 8, 8, 8, 8, 8, 8, 8, 8, 8, 8, 8, 8, 8, 8, 8, 8, 8, 8, 8, 8, 8, 8, 8, 8, 8, 8, 8, 8, 8, 8, 8]⟩)) (.s 21))⟩,
 ⟨none, some 23, .inl (.cvi .i64 (.s 22))⟩,
 ⟨none, some 24, .inl (.bin .add (.s 19) (.s 23))⟩,
 vM 2 24])
 (.ret)))))
def k136 : Cd :=
  .seq (.region [⟨none, some 4, .inl (.mv (.c (.int .u32 0)))⟩,
 ⟨none, some 5, .inl (.mv (.c (.int .u32 0)))⟩])
 (.seq (.region [vM 7 0,
 ⟨none, some 8, .inl (.cvi .u64 (.s 7))⟩,
 vM 9 1,
 ⟨none, some 10, .inl (.cvi .u64 (.s 9))⟩,
 ⟨none, some 11, .inl (.bin .mul (.s 8) (.s 10))⟩,
 vM 6 11])
 (.seq (.region [vM 12 6,
 ⟨none, some 13, .inl (.bin .shr (.s 12) (.c (.int .u64 32)))⟩,
 ⟨none, some 14, .inl (.cvi .u32 (.s 13))⟩,
 vM 15 6,
 ⟨none, some 16, .inl (.cvi .u32 (.s 15))⟩,
 vM 4 14,
 vM 5 16])
 (.ret)))
def k137 : Cd :=
  .seq (.region [⟨none, some 4, .inl (.mv (.c (.int .u64 0)))⟩,
 ⟨none, some 5, .inl (.mv (.c (.int .u64 0)))⟩])
 (.seq (.region [vM 14 0,
 ⟨none, some 15, .inl (.bin .and (.s 14) (.c (.int .u64 4294967295)))⟩,
 vM 6 15])
 (.seq (.region [vM 16 0,
 ⟨none, some 17, .inl (.bin .shr (.s 16) (.c (.int .u64 32)))⟩,
 vM 7 17])
 (.seq (.region [vM 18 1,
 ⟨none, some 19, .inl (.bin .and (.s 18) (.c (.int .u64 4294967295)))⟩,
 vM 8 19])
 (.seq (.region [vM 20 1,
 ⟨none, some 21, .inl (.bin .shr (.s 20) (.c (.int .u64 32)))⟩,
 vM 9 21])
 (.seq (.region [vM 22 6,
 vM 23 8,
 ⟨none, some 24, .inl (.bin .mul (.s 22) (.s 23))⟩,
 vM 10 24])
 (.seq (.region [vM 25 7,
 vM 26 8,
 ⟨none, some 27, .inl (.bin .mul (.s 25) (.s 26))⟩,
 vM 28 10,
 ⟨none, some 29, .inl (.bin .shr (.s 28) (.c (.int .u64 32)))⟩,
 ⟨none, some 30, .inl (.bin .add (.s 27) (.s 29))⟩,
 vM 11 30])
 (.seq (.region [vM 31 11,
 ⟨none, some 32, .inl (.bin .and (.s 31) (.c (.int .u64 4294967295)))⟩,
 vM 12 32])
 (.seq (.region [vM 33 11,
 ⟨none, some 34, .inl (.bin .shr (.s 33) (.c (.int .u64 32)))⟩,
 vM 13 34])
 (.seq (.region [vM 35 12,
 vM 36 6,
 vM 37 9,
 ⟨none, some 38, .inl (.bin .mul (.s 36) (.s 37))⟩,
 ⟨none, some 39, .inl (.bin .add (.s 35) (.s 38))⟩,
 vM 12 39])
 (.seq (.region [vM 40 7,
 vM 41 9,
 ⟨none, some 42, .inl (.bin .mul (.s 40) (.s 41))⟩,
 vM 43 13,
 ⟨none, some 44, .inl (.bin .add (.s 42) (.s 43))⟩,
 vM 45 12,
 ⟨none, some 46, .inl (.bin .shr (.s 45) (.c (.int .u64 32)))⟩,
 ⟨none, some 47, .inl (.bin .add (.s 44) (.s 46))⟩,
 vM 4 47])
 (.seq (.region [vM 48 0,
 vM 49 1,
 ⟨none, some 50, .inl (.bin .mul (.s 48) (.s 49))⟩,
 vM 5 50])
 (.ret))))))))))))
def k138l0 : Cd :=
  .block 1 (.seq (.region [vM 11 8,
 ⟨none, some 12, .inl (.bin .mul (.c (.int .i64 2)) (.s 11))⟩,
 ⟨none, some 13, .inl (.bin .add (.s 12) (.c (.int .i64 1)))⟩,
 vM 9 13])
 (.seq (.seq (.region [vM 14 9,
 vM 15 2,
 ⟨none, some 16, .inl (.bin .geq (.s 14) (.s 15))⟩])
 (.cond (.s 16) (.exit 0)
 (.skip)))
 (.seq (.seq (.draw [⟨vM 17 9, some [], [], 0, false⟩,
 ⟨⟨none, some 18, .inl (.bin .add (.s 17) (.c (.int .i64 1)))⟩, some [], [], 1, false⟩,
 ⟨vM 19 2, some [], [], 0, false⟩,
 ⟨⟨none, some 20, .inl (.bin .lss (.s 18) (.s 19))⟩, some [], [], 7, false⟩,
 ⟨vM 21 20, some [], [], 15, false⟩,
 ⟨⟨some (21, true), some 22, .inl (.mv (.s 0))⟩, some [], [], 31, false⟩,
 ⟨⟨some (21, true), some 23, .inl (.mv (.s 3))⟩, some [], [], 31, false⟩,
 ⟨⟨some (21, true), some 24, .inl (.mv (.s 9))⟩, some [], [], 31, false⟩,
 ⟨⟨some (21, true), some 25, .inl (.bin .add (.s 23) (.s 24))⟩, some [], [], 223, false⟩,
 ⟨⟨some (21, true), some 26, .inl (.ias 1 (.s 22) (.s 25))⟩, some [], [], 511, false⟩,
 ⟨⟨some (21, true), some 27, .inl (.ld false 1 (.s 26))⟩, some [], [], 1023, false⟩,
 ⟨⟨some (21, true), some 28, .inl (.mv (.s 0))⟩, some [], [], 31, false⟩,
 ⟨⟨some (21, true), some 29, .inl (.mv (.s 3))⟩, some [], [], 31, false⟩,
 ⟨⟨some (21, true), some 30, .inl (.mv (.s 9))⟩, some [], [], 31, false⟩,
 ⟨⟨some (21, true), some 31, .inl (.bin .add (.s 29) (.s 30))⟩, some [], [], 12319, false⟩,
 ⟨⟨some (21, true), some 32, .inl (.bin .add (.s 31) (.c (.int .i64 1)))⟩, some [], [], 28703, false⟩,
 ⟨⟨some (21, true), some 33, .inl (.ias 1 (.s 28) (.s 32))⟩, some [], [], 63519, false⟩,
 ⟨⟨some (21, true), some 34, .inl (.ld false 1 (.s 33))⟩, some [], [], 129055, false⟩,
 ⟨⟨some (21, true), some 35, .inr (.fn 117 [(.s 27), (.s 34)])⟩, some [], [], 262143, false⟩,
 ⟨⟨none, some 36, .inl (.pick (.s 21) (.s 35) (.c (.bool false)))⟩, some [], [], 524287, false⟩])
 (.cond (.s 36) (.region [vM 37 9,
 ⟨none, some 38, .inl (.bin .add (.s 37) (.c (.int .i64 1)))⟩,
 vM 9 38])
 (.skip)))
 (.seq (.seq (.draw [⟨vM 39 0, some [], [], 0, false⟩,
 ⟨vM 40 3, some [], [], 0, false⟩,
 ⟨vM 41 8, some [], [], 0, false⟩,
 ⟨⟨none, some 42, .inl (.bin .add (.s 40) (.s 41))⟩, some [], [], 6, false⟩,
 ⟨vI 43 1 39 42, some [], [], 15, false⟩,
 ⟨vL 44 1 43, some [], [], 31, false⟩,
 ⟨vM 45 0, some [], [], 0, false⟩,
 ⟨vM 46 3, some [], [], 0, false⟩,
 ⟨vM 47 9, some [], [], 0, false⟩,
 ⟨⟨none, some 48, .inl (.bin .add (.s 46) (.s 47))⟩, some [], [], 384, false⟩,
 ⟨vI 49 1 45 48, some [], [], 960, false⟩,
 ⟨vL 50 1 49, some [], [], 1984, false⟩,
 ⟨⟨none, some 51, .inr (.fn 117 [(.s 44), (.s 50)])⟩, some [], [], 4095, false⟩,
 ⟨⟨none, some 52, .inl (.not (.s 51))⟩, some [], [], 8191, false⟩])
 (.cond (.s 52) (.ret)
 (.skip)))
 (.seq (.draw [⟨vM 53 0, some [], [], 0, false⟩,
 ⟨vM 54 3, some [], [], 0, false⟩,
 ⟨vM 55 8, some [], [], 0, false⟩,
 ⟨⟨none, some 56, .inl (.bin .add (.s 54) (.s 55))⟩, some [], [], 6, false⟩,
 ⟨vM 57 0, some [], [], 0, false⟩,
 ⟨vM 58 3, some [], [], 0, false⟩,
 ⟨vM 59 9, some [], [], 0, false⟩,
 ⟨⟨none, some 60, .inl (.bin .add (.s 58) (.s 59))⟩, some [], [], 96, false⟩,
 ⟨vM 61 0, some [], [], 0, false⟩,
 ⟨vM 62 3, some [], [], 0, false⟩,
 ⟨vM 63 9, some [], [], 0, false⟩,
 ⟨⟨none, some 64, .inl (.bin .add (.s 62) (.s 63))⟩, some [], [], 1536, false⟩,
 ⟨vI 65 1 61 64, some [], [], 3840, false⟩,
 ⟨vL 66 1 65, some [], [], 7936, false⟩,
 ⟨vM 67 0, some [], [], 0, false⟩,
 ⟨vM 68 3, some [], [], 0, false⟩,
 ⟨vM 69 8, some [], [], 0, false⟩,
 ⟨⟨none, some 70, .inl (.bin .add (.s 68) (.s 69))⟩, some [], [], 98304, false⟩,
 ⟨vI 71 1 67 70, some [], [], 245760, false⟩,
 ⟨vL 72 1 71, some [], [], 507904, false⟩,
 ⟨vI 73 1 53 56, some [], [], 1048335, false⟩,
 ⟨⟨none, none, .inl (.st 1 (.s 73) (.s 66))⟩, (some [.at 0]), [], 2096911, false⟩,
 ⟨vI 74 1 57 60, some [], [], 4194303, false⟩,
 ⟨⟨none, none, .inl (.st 1 (.s 74) (.s 72))⟩, (some [.at 0]), [], 8388607, false⟩])
 (.region [vM 75 9,
 vM 8 75]))))))
def k138 : Cd :=
  .seq (.region [vM 10 1,
 vM 8 10])
 (.block 0 (.loop k138l0))
def k139 : Cd :=
  .seq (.region [⟨none, some 2, .inl (.mv (.c (.int .u64 0)))⟩])
 (.seq (.region [vM 3 0,
 ⟨none, some 4, .inl (.cvi .u64 (.s 3))⟩,
 ⟨none, some 5, .inr (.fn 123 [(.s 4)])⟩,
 ⟨none, some 6, .inl (.bin .shl (.c (.int .u64 1)) (.s 5))⟩,
 vM 2 6])
 (.ret))
def k140 : Cd :=
  .seq (.region [⟨none, some 2, .inl (.mv (.c (.int .u64 0)))⟩])
 (.seq (.draw [⟨vM 3 0, some [], [], 0, false⟩,
 ⟨⟨none, some 4, .inl (.nc (.s 3))⟩, some [], [], 1, false⟩,
 ⟨vL 5 1 4, some [], [], 3, false⟩,
 ⟨vM 6 0, some [], [], 0, false⟩,
 ⟨⟨none, some 7, .inl (.nc (.s 6))⟩, some [], [], 8, false⟩,
 ⟨vL 8 1 7, some [], [], 24, false⟩,
 ⟨⟨none, some 9, .inl (.bin .shl (.s 8) (.c (.int .u64 13)))⟩, some [], [], 56, false⟩,
 ⟨⟨none, some 10, .inl (.bin .xor (.s 5) (.s 9))⟩, some [], [], 127, false⟩,
 ⟨⟨none, some 11, .inl (.nc (.s 3))⟩, some [], [], 255, false⟩,
 ⟨⟨none, none, .inl (.st 1 (.s 11) (.s 10))⟩, (some [.at 0]), [], 511, false⟩])
 (.seq (.draw [⟨vM 12 0, some [], [], 0, false⟩,
 ⟨⟨none, some 13, .inl (.nc (.s 12))⟩, some [], [], 1, false⟩,
 ⟨vL 14 1 13, some [], [], 3, false⟩,
 ⟨vM 15 0, some [], [], 0, false⟩,
 ⟨⟨none, some 16, .inl (.nc (.s 15))⟩, some [], [], 8, false⟩,
 ⟨vL 17 1 16, some [], [], 24, false⟩,
 ⟨⟨none, some 18, .inl (.bin .shr (.s 17) (.c (.int .u64 7)))⟩, some [], [], 56, false⟩,
 ⟨⟨none, some 19, .inl (.bin .xor (.s 14) (.s 18))⟩, some [], [], 127, false⟩,
 ⟨⟨none, some 20, .inl (.nc (.s 12))⟩, some [], [], 255, false⟩,
 ⟨⟨none, none, .inl (.st 1 (.s 20) (.s 19))⟩, (some [.at 0]), [], 511, false⟩])
 (.seq (.draw [⟨vM 21 0, some [], [], 0, false⟩,
 ⟨⟨none, some 22, .inl (.nc (.s 21))⟩, some [], [], 1, false⟩,
 ⟨vL 23 1 22, some [], [], 3, false⟩,
 ⟨vM 24 0, some [], [], 0, false⟩,
 ⟨⟨none, some 25, .inl (.nc (.s 24))⟩, some [], [], 8, false⟩,
 ⟨vL 26 1 25, some [], [], 24, false⟩,
 ⟨⟨none, some 27, .inl (.bin .shl (.s 26) (.c (.int .u64 17)))⟩, some [], [], 56, false⟩,
 ⟨⟨none, some 28, .inl (.bin .xor (.s 23) (.s 27))⟩, some [], [], 127, false⟩,
 ⟨⟨none, some 29, .inl (.nc (.s 21))⟩, some [], [], 255, false⟩,
 ⟨⟨none, none, .inl (.st 1 (.s 29) (.s 28))⟩, (some [.at 0]), [], 511, false⟩])
 (.seq (.region [vM 30 0,
 ⟨none, some 31, .inl (.nc (.s 30))⟩,
 vL 32 1 31,
 vM 2 32])
 (.ret)))))
def k141 : Cd :=
  .seq (.region [⟨none, some 6, .inl (.mv (.c (.int .i64 0)))⟩])
 (.seq (.region [vM 7 0,
 vM 8 1,
 ⟨none, some 9, .inl (.bin .sub (.s 8) (.c (.int .i64 1)))⟩,
 vM 10 1,
 vM 11 1,
 ⟨none, some 12, .inl (.bin .add (.s 11) (.c (.int .i64 1)))⟩,
 vM 13 2,
 ⟨none, some 14, .inr (.fn 142 [(.s 7), (.s 9), (.s 10), (.s 12), (.s 13)])⟩,
 vM 6 14])
 (.ret))
def k142 : Cd :=
  .seq (.region [⟨none, some 10, .inl (.mv (.c (.int .i64 0)))⟩])
 (.seq (.region [vM 12 0,
 vM 13 1,
 vM 14 2,
 vM 15 4,
 ⟨none, some 16, .inr (.fn 143 [(.s 12), (.s 13), (.s 14), (.s 15)])⟩,
 vM 11 16,
 ⟨none, some 17, .inl (.ex (.s 11) 0)⟩,
 ⟨none, some 18, .inl (.ex (.s 11) 1)⟩,
 vM 1 17,
 vM 2 18])
 (.seq (.region [vM 20 0,
 vM 21 2,
 vM 22 3,
 vM 23 4,
 ⟨none, some 24, .inr (.fn 143 [(.s 20), (.s 21), (.s 22), (.s 23)])⟩,
 vM 19 24,
 ⟨none, some 25, .inl (.ex (.s 19) 0)⟩,
 ⟨none, some 26, .inl (.ex (.s 19) 1)⟩,
 vM 2 25,
 vM 3 26])
 (.seq (.region [vM 28 0,
 vM 29 1,
 vM 30 2,
 vM 31 4,
 ⟨none, some 32, .inr (.fn 143 [(.s 28), (.s 29), (.s 30), (.s 31)])⟩,
 vM 27 32,
 ⟨none, some 33, .inl (.ex (.s 27) 0)⟩,
 ⟨none, some 34, .inl (.ex (.s 27) 1)⟩,
 vM 1 33,
 vM 2 34])
 (.seq (.region [vM 35 2,
 vM 10 35])
 (.ret)))))
def k143 : Cd :=
  .seq (.region [⟨none, some 8, .inl (.mv (.c (.int .i64 0)))⟩,
 ⟨none, some 9, .inl (.mv (.c (.int .i64 0)))⟩])
 (.seq (.seq (.draw [⟨vM 10 0, some [], [], 0, false⟩,
 ⟨vM 11 2, some [], [], 0, false⟩,
 ⟨vI 12 1 10 11, some [], [], 3, false⟩,
 ⟨vL 13 1 12, some [], [], 7, false⟩,
 ⟨vM 14 0, some [], [], 0, false⟩,
 ⟨vM 15 1, some [], [], 0, false⟩,
 ⟨vI 16 1 14 15, some [], [], 48, false⟩,
 ⟨vL 17 1 16, some [], [], 112, false⟩,
 ⟨⟨none, some 18, .inr (.fn 117 [(.s 13), (.s 17)])⟩, some [], [], 255, false⟩])
 (.cond (.s 18) (.seq (.region [vM 19 3,
 ⟨none, some 20, .inl (.nc (.s 19))⟩,
 vL 21 1 20,
 ⟨none, some 22, .inl (.bin .add (.s 21) (.c (.int .i64 1)))⟩,
 ⟨none, some 23, .inl (.nc (.s 19))⟩,
 ⟨none, none, .inl (.st 1 (.s 23) (.s 22))⟩])
 (.seq (.region [vM 24 2,
 vM 25 1,
 vM 8 24,
 vM 9 25])
 (.ret)))
 (.skip)))
 (.seq (.region [vM 26 1,
 vM 27 2,
 vM 8 26,
 vM 9 27])
 (.ret)))
end Go.Proofs.YtlkpikdfbodhoaaDoor
