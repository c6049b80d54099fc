/- The small code of the functions of this program, as its own reader reads them: part B. -/
import Derived.Test.YtppfjkebamegnaaDoorCodeA
namespace Go.Proofs.YtppfjkebamegnaaDoor
open Go Go.Em
set_option maxRecDepth 100000
def k129 : Cd :=
  .seq (.region [⟨none, some 6, .inl (.mv (.c (.int .i64 0)))⟩,
 ⟨none, some 7, .inl (.mv (.c (.int .i64 0)))⟩])
 (.seq (.region [⟨none, some 13, .inl (.mv (.s 2))⟩,
 ⟨none, some 14, .inl (.mv (.s 1))⟩,
 ⟨none, some 15, .inl (.bin .sub (.s 13) (.s 14))⟩,
 ⟨none, some 8, .inl (.mv (.s 15))⟩])
 (.seq (.region [⟨none, some 9, .inl (.alloc 3 [(.int .i64 0)])⟩])
 (.seq (.region [⟨none, some 16, .inl (.mv (.s 1))⟩,
 ⟨none, some 17, .inl (.mv (.s 8))⟩,
 ⟨none, some 18, .inl (.bin .quo (.s 17) (.c (.int .i64 4)))⟩,
 ⟨none, some 19, .inl (.bin .mul (.s 18) (.c (.int .i64 1)))⟩,
 ⟨none, some 20, .inl (.bin .add (.s 16) (.s 19))⟩,
 ⟨none, some 10, .inl (.mv (.s 20))⟩])
 (.seq (.region [⟨none, some 21, .inl (.mv (.s 1))⟩,
 ⟨none, some 22, .inl (.mv (.s 8))⟩,
 ⟨none, some 23, .inl (.bin .quo (.s 22) (.c (.int .i64 4)))⟩,
 ⟨none, some 24, .inl (.bin .mul (.s 23) (.c (.int .i64 2)))⟩,
 ⟨none, some 25, .inl (.bin .add (.s 21) (.s 24))⟩,
 ⟨none, some 11, .inl (.mv (.s 25))⟩])
 (.seq (.region [⟨none, some 26, .inl (.mv (.s 1))⟩,
 ⟨none, some 27, .inl (.mv (.s 8))⟩,
 ⟨none, some 28, .inl (.bin .quo (.s 27) (.c (.int .i64 4)))⟩,
 ⟨none, some 29, .inl (.bin .mul (.s 28) (.c (.int .i64 3)))⟩,
 ⟨none, some 30, .inl (.bin .add (.s 26) (.s 29))⟩,
 ⟨none, some 12, .inl (.mv (.s 30))⟩])
 (.seq (.seq (.region [⟨none, some 31, .inl (.mv (.s 8))⟩,
 ⟨none, some 32, .inl (.bin .geq (.s 31) (.c (.int .i64 8)))⟩])
 (.cond (.s 32) (.seq (.seq (.region [⟨none, some 33, .inl (.mv (.s 8))⟩,
 ⟨none, some 34, .inl (.bin .geq (.s 33) (.c (.int .i64 50)))⟩])
 (.cond (.s 34) (.seq (.region [⟨none, some 35, .inl (.mv (.s 0))⟩,
 ⟨none, some 36, .inl (.mv (.s 10))⟩,
 ⟨none, some 37, .inr (.fn 141 [(.s 35), (.s 36), (.s 9)])⟩,
 ⟨none, some 10, .inl (.mv (.s 37))⟩])
 (.seq (.region [⟨none, some 38, .inl (.mv (.s 0))⟩,
 ⟨none, some 39, .inl (.mv (.s 11))⟩,
 ⟨none, some 40, .inr (.fn 141 [(.s 38), (.s 39), (.s 9)])⟩,
 ⟨none, some 11, .inl (.mv (.s 40))⟩])
 (.region [⟨none, some 41, .inl (.mv (.s 0))⟩,
 ⟨none, some 42, .inl (.mv (.s 12))⟩,
 ⟨none, some 43, .inr (.fn 141 [(.s 41), (.s 42), (.s 9)])⟩,
 ⟨none, some 12, .inl (.mv (.s 43))⟩])))
 (.skip)))
 (.region [⟨none, some 44, .inl (.mv (.s 0))⟩,
 ⟨none, some 45, .inl (.mv (.s 10))⟩,
 ⟨none, some 46, .inl (.mv (.s 11))⟩,
 ⟨none, some 47, .inl (.mv (.s 12))⟩,
 ⟨none, some 48, .inr (.fn 142 [(.s 44), (.s 45), (.s 46), (.s 47), (.s 9)])⟩,
 ⟨none, some 11, .inl (.mv (.s 48))⟩]))
 (.skip)))
 (.seq (.region [⟨none, some 49, .inl (.ld false 1 (.s 9))⟩])
 (.block 0 (.seq (.region [⟨none, some 52, .inl (.bin .eql (.s 49) (.c (.int .i64 0)))⟩,
 ⟨none, some 51, .inl (.mv (.s 52))⟩])
 (.cond (.s 51) (.seq (.region [⟨none, some 53, .inl (.mv (.s 11))⟩,
 ⟨none, some 6, .inl (.mv (.s 53))⟩,
 ⟨none, some 7, .inl (.mv (.c (.int .i64 1)))⟩])
 (.ret))
 (.seq (.region [⟨none, some 55, .inl (.bin .eql (.s 49) (.c (.int .i64 12)))⟩,
 ⟨none, some 54, .inl (.mv (.s 55))⟩])
 (.cond (.s 54) (.seq (.region [⟨none, some 56, .inl (.mv (.s 11))⟩,
 ⟨none, some 6, .inl (.mv (.s 56))⟩,
 ⟨none, some 7, .inl (.mv (.c (.int .i64 2)))⟩])
 (.ret))
 (.seq (.region [⟨none, some 50, .inl (.mv (.s 11))⟩,
 ⟨none, some 6, .inl (.mv (.s 50))⟩,
 ⟨none, some 7, .inl (.mv (.c (.int .i64 0)))⟩])
 (.ret))))))))))))))
def k130l0 : Cd :=
  .seq (.seq (.region [⟨none, some 11, .inl (.mv (.s 6))⟩,
 ⟨none, some 12, .inl (.mv (.s 7))⟩,
 ⟨none, some 13, .inl (.bin .lss (.s 11) (.s 12))⟩])
 (.cond (.s 13) (.skip)
 (.exit 0)))
 (.block 1 (.seq (.draw [⟨⟨none, some 14, .inl (.mv (.s 0))⟩, some [], [], 0, false⟩,
 ⟨⟨none, some 15, .inl (.mv (.s 6))⟩, some [], [], 0, false⟩,
 ⟨⟨none, some 16, .inl (.mv (.s 0))⟩, some [], [], 0, false⟩,
 ⟨⟨none, some 17, .inl (.mv (.s 7))⟩, some [], [], 0, false⟩,
 ⟨⟨none, some 18, .inl (.mv (.s 0))⟩, some [], [], 0, false⟩,
 ⟨⟨none, some 19, .inl (.mv (.s 7))⟩, some [], [], 0, false⟩,
 ⟨⟨none, some 20, .inl (.ias 1 (.s 18) (.s 19))⟩, some [], [], 48, false⟩,
 ⟨⟨none, some 21, .inl (.ld false 1 (.s 20))⟩, some [], [], 112, false⟩,
 ⟨⟨none, some 22, .inl (.mv (.s 0))⟩, some [], [], 0, false⟩,
 ⟨⟨none, some 23, .inl (.mv (.s 6))⟩, some [], [], 0, false⟩,
 ⟨⟨none, some 24, .inl (.ias 1 (.s 22) (.s 23))⟩, some [], [], 768, false⟩,
 ⟨⟨none, some 25, .inl (.ld false 1 (.s 24))⟩, some [], [], 1792, false⟩,
 ⟨⟨none, some 26, .inl (.ias 1 (.s 14) (.s 15))⟩, some [], [], 4083, false⟩,
 ⟨⟨none, none, .inl (.st 1 (.s 26) (.s 21))⟩, (some [.at 0]), [], 8179, false⟩,
 ⟨⟨none, some 27, .inl (.ias 1 (.s 16) (.s 17))⟩, some [], [], 16383, false⟩,
 ⟨⟨none, none, .inl (.st 1 (.s 27) (.s 25))⟩, (some [.at 0]), [], 32767, false⟩])
 (.seq (.region [⟨none, some 28, .inl (.mv (.s 6))⟩,
 ⟨none, some 29, .inl (.bin .add (.s 28) (.c (.int .i64 1)))⟩,
 ⟨none, some 6, .inl (.mv (.s 29))⟩])
 (.region [⟨none, some 30, .inl (.mv (.s 7))⟩,
 ⟨none, some 31, .inl (.bin .sub (.s 30) (.c (.int .i64 1)))⟩,
 ⟨none, some 7, .inl (.mv (.s 31))⟩]))))
def k130 : Cd :=
  .seq (.region [⟨none, some 8, .inl (.mv (.s 1))⟩,
 ⟨none, some 6, .inl (.mv (.s 8))⟩])
 (.seq (.region [⟨none, some 9, .inl (.mv (.s 2))⟩,
 ⟨none, some 10, .inl (.bin .sub (.s 9) (.c (.int .i64 1)))⟩,
 ⟨none, some 7, .inl (.mv (.s 10))⟩])
 (.block 0 (.loop k130l0)))
def k131l0 : Cd :=
  .seq (.seq (.draw [⟨⟨none, some 17, .inl (.mv (.s 7))⟩, some [], [], 0, false⟩,
 ⟨⟨none, some 18, .inl (.mv (.s 2))⟩, some [], [], 0, false⟩,
 ⟨⟨none, some 19, .inl (.bin .lss (.s 17) (.s 18))⟩, some [], [], 3, false⟩,
 ⟨⟨none, some 20, .inl (.mv (.s 19))⟩, some [], [], 7, false⟩,
 ⟨⟨some (20, true), some 21, .inl (.mv (.s 0))⟩, some [], [], 15, false⟩,
 ⟨⟨some (20, true), some 22, .inl (.mv (.s 7))⟩, some [], [], 15, false⟩,
 ⟨⟨some (20, true), some 23, .inl (.ias 1 (.s 21) (.s 22))⟩, some [], [], 63, false⟩,
 ⟨⟨some (20, true), some 24, .inl (.ld false 1 (.s 23))⟩, some [], [], 127, false⟩,
 ⟨⟨some (20, true), some 25, .inl (.mv (.s 0))⟩, some [], [], 15, false⟩,
 ⟨⟨some (20, true), some 26, .inl (.mv (.s 7))⟩, some [], [], 15, false⟩,
 ⟨⟨some (20, true), some 27, .inl (.bin .sub (.s 26) (.c (.int .i64 1)))⟩, some [], [], 527, false⟩,
 ⟨⟨some (20, true), some 28, .inl (.ias 1 (.s 25) (.s 27))⟩, some [], [], 1807, false⟩,
 ⟨⟨some (20, true), some 29, .inl (.ld false 1 (.s 28))⟩, some [], [], 3855, false⟩,
 ⟨⟨some (20, true), some 30, .inr (.fn 117 [(.s 24), (.s 29)])⟩, some [], [], 8191, false⟩,
 ⟨⟨some (20, true), some 31, .inl (.not (.s 30))⟩, some [], [], 16383, false⟩,
 ⟨⟨none, some 32, .inl (.pick (.s 20) (.s 31) (.c (.bool false)))⟩, some [], [], 32767, false⟩])
 (.cond (.s 32) (.skip)
 (.exit 2)))
 (.block 3 (.region [⟨none, some 33, .inl (.mv (.s 7))⟩,
 ⟨none, some 34, .inl (.bin .add (.s 33) (.c (.int .i64 1)))⟩,
 ⟨none, some 7, .inl (.mv (.s 34))⟩]))
def k131l1 : Cd :=
  .seq (.seq (.region [⟨none, some 64, .inl (.mv (.s 9))⟩,
 ⟨none, some 65, .inl (.bin .geq (.s 64) (.c (.int .i64 1)))⟩])
 (.cond (.s 65) (.skip)
 (.exit 4)))
 (.seq (.block 5 (.seq (.seq (.draw [⟨⟨none, some 68, .inl (.mv (.s 0))⟩, some [], [], 0, false⟩,
 ⟨⟨none, some 69, .inl (.mv (.s 9))⟩, some [], [], 0, false⟩,
 ⟨⟨none, some 70, .inl (.ias 1 (.s 68) (.s 69))⟩, some [], [], 3, false⟩,
 ⟨⟨none, some 71, .inl (.ld false 1 (.s 70))⟩, some [], [], 7, false⟩,
 ⟨⟨none, some 72, .inl (.mv (.s 0))⟩, some [], [], 0, false⟩,
 ⟨⟨none, some 73, .inl (.mv (.s 9))⟩, some [], [], 0, false⟩,
 ⟨⟨none, some 74, .inl (.bin .sub (.s 73) (.c (.int .i64 1)))⟩, some [], [], 32, false⟩,
 ⟨⟨none, some 75, .inl (.ias 1 (.s 72) (.s 74))⟩, some [], [], 112, false⟩,
 ⟨⟨none, some 76, .inl (.ld false 1 (.s 75))⟩, some [], [], 240, false⟩,
 ⟨⟨none, some 77, .inr (.fn 117 [(.s 71), (.s 76)])⟩, some [], [], 511, false⟩,
 ⟨⟨none, some 78, .inl (.not (.s 77))⟩, some [], [], 1023, false⟩])
 (.cond (.s 78) (.exit 4)
 (.skip)))
 (.draw [⟨⟨none, some 79, .inl (.mv (.s 0))⟩, some [], [], 0, false⟩,
 ⟨⟨none, some 80, .inl (.mv (.s 9))⟩, some [], [], 0, false⟩,
 ⟨⟨none, some 81, .inl (.mv (.s 0))⟩, some [], [], 0, false⟩,
 ⟨⟨none, some 82, .inl (.mv (.s 9))⟩, some [], [], 0, false⟩,
 ⟨⟨none, some 83, .inl (.bin .sub (.s 82) (.c (.int .i64 1)))⟩, some [], [], 8, false⟩,
 ⟨⟨none, some 84, .inl (.mv (.s 0))⟩, some [], [], 0, false⟩,
 ⟨⟨none, some 85, .inl (.mv (.s 9))⟩, some [], [], 0, false⟩,
 ⟨⟨none, some 86, .inl (.bin .sub (.s 85) (.c (.int .i64 1)))⟩, some [], [], 64, false⟩,
 ⟨⟨none, some 87, .inl (.ias 1 (.s 84) (.s 86))⟩, some [], [], 224, false⟩,
 ⟨⟨none, some 88, .inl (.ld false 1 (.s 87))⟩, some [], [], 480, false⟩,
 ⟨⟨none, some 89, .inl (.mv (.s 0))⟩, some [], [], 0, false⟩,
 ⟨⟨none, some 90, .inl (.mv (.s 9))⟩, some [], [], 0, false⟩,
 ⟨⟨none, some 91, .inl (.ias 1 (.s 89) (.s 90))⟩, some [], [], 3072, false⟩,
 ⟨⟨none, some 92, .inl (.ld false 1 (.s 91))⟩, some [], [], 7168, false⟩,
 ⟨⟨none, some 93, .inl (.ias 1 (.s 79) (.s 80))⟩, some [], [], 16355, false⟩,
 ⟨⟨none, none, .inl (.st 1 (.s 93) (.s 88))⟩, (some [.at 0]), [], 32739, false⟩,
 ⟨⟨none, some 94, .inl (.ias 1 (.s 81) (.s 83))⟩, some [], [], 65535, false⟩,
 ⟨⟨none, none, .inl (.st 1 (.s 94) (.s 92))⟩, (some [.at 0]), [], 131071, false⟩])))
 (.region [⟨none, some 66, .inl (.mv (.s 9))⟩,
 ⟨none, some 67, .inl (.bin .sub (.s 66) (.c (.int .i64 1)))⟩,
 ⟨none, some 9, .inl (.mv (.s 67))⟩]))
def k131l2 : Cd :=
  .seq (.seq (.region [⟨none, some 101, .inl (.mv (.s 10))⟩,
 ⟨none, some 102, .inl (.mv (.s 2))⟩,
 ⟨none, some 103, .inl (.bin .lss (.s 101) (.s 102))⟩])
 (.cond (.s 103) (.skip)
 (.exit 6)))
 (.seq (.block 7 (.seq (.seq (.draw [⟨⟨none, some 106, .inl (.mv (.s 0))⟩, some [], [], 0, false⟩,
 ⟨⟨none, some 107, .inl (.mv (.s 10))⟩, some [], [], 0, false⟩,
 ⟨⟨none, some 108, .inl (.ias 1 (.s 106) (.s 107))⟩, some [], [], 3, false⟩,
 ⟨⟨none, some 109, .inl (.ld false 1 (.s 108))⟩, some [], [], 7, false⟩,
 ⟨⟨none, some 110, .inl (.mv (.s 0))⟩, some [], [], 0, false⟩,
 ⟨⟨none, some 111, .inl (.mv (.s 10))⟩, some [], [], 0, false⟩,
 ⟨⟨none, some 112, .inl (.bin .sub (.s 111) (.c (.int .i64 1)))⟩, some [], [], 32, false⟩,
 ⟨⟨none, some 113, .inl (.ias 1 (.s 110) (.s 112))⟩, some [], [], 112, false⟩,
 ⟨⟨none, some 114, .inl (.ld false 1 (.s 113))⟩, some [], [], 240, false⟩,
 ⟨⟨none, some 115, .inr (.fn 117 [(.s 109), (.s 114)])⟩, some [], [], 511, false⟩,
 ⟨⟨none, some 116, .inl (.not (.s 115))⟩, some [], [], 1023, false⟩])
 (.cond (.s 116) (.exit 6)
 (.skip)))
 (.draw [⟨⟨none, some 117, .inl (.mv (.s 0))⟩, some [], [], 0, false⟩,
 ⟨⟨none, some 118, .inl (.mv (.s 10))⟩, some [], [], 0, false⟩,
 ⟨⟨none, some 119, .inl (.mv (.s 0))⟩, some [], [], 0, false⟩,
 ⟨⟨none, some 120, .inl (.mv (.s 10))⟩, some [], [], 0, false⟩,
 ⟨⟨none, some 121, .inl (.bin .sub (.s 120) (.c (.int .i64 1)))⟩, some [], [], 8, false⟩,
 ⟨⟨none, some 122, .inl (.mv (.s 0))⟩, some [], [], 0, false⟩,
 ⟨⟨none, some 123, .inl (.mv (.s 10))⟩, some [], [], 0, false⟩,
 ⟨⟨none, some 124, .inl (.bin .sub (.s 123) (.c (.int .i64 1)))⟩, some [], [], 64, false⟩,
 ⟨⟨none, some 125, .inl (.ias 1 (.s 122) (.s 124))⟩, some [], [], 224, false⟩,
 ⟨⟨none, some 126, .inl (.ld false 1 (.s 125))⟩, some [], [], 480, false⟩,
 ⟨⟨none, some 127, .inl (.mv (.s 0))⟩, some [], [], 0, false⟩,
 ⟨⟨none, some 128, .inl (.mv (.s 10))⟩, some [], [], 0, false⟩,
 ⟨⟨none, some 129, .inl (.ias 1 (.s 127) (.s 128))⟩, some [], [], 3072, false⟩,
 ⟨⟨none, some 130, .inl (.ld false 1 (.s 129))⟩, some [], [], 7168, false⟩,
 ⟨⟨none, some 131, .inl (.ias 1 (.s 117) (.s 118))⟩, some [], [], 16355, false⟩,
 ⟨⟨none, none, .inl (.st 1 (.s 131) (.s 126))⟩, (some [.at 0]), [], 32739, false⟩,
 ⟨⟨none, some 132, .inl (.ias 1 (.s 119) (.s 121))⟩, some [], [], 65535, false⟩,
 ⟨⟨none, none, .inl (.st 1 (.s 132) (.s 130))⟩, (some [.at 0]), [], 131071, false⟩])))
 (.region [⟨none, some 104, .inl (.mv (.s 10))⟩,
 ⟨none, some 105, .inl (.bin .add (.s 104) (.c (.int .i64 1)))⟩,
 ⟨none, some 10, .inl (.mv (.s 105))⟩]))
def k131l3 : Cd :=
  .seq (.seq (.region [⟨none, some 13, .inl (.mv (.s 8))⟩,
 ⟨none, some 14, .inl (.bin .lss (.s 13) (.c (.int .i64 5)))⟩])
 (.cond (.s 14) (.skip)
 (.exit 0)))
 (.seq (.block 1 (.seq (.block 2 (.loop k131l0))
 (.seq (.seq (.region [⟨none, some 35, .inl (.mv (.s 7))⟩,
 ⟨none, some 36, .inl (.mv (.s 2))⟩,
 ⟨none, some 37, .inl (.bin .eql (.s 35) (.s 36))⟩])
 (.cond (.s 37) (.seq (.region [⟨none, some 6, .inl (.mv (.c (.bool true)))⟩])
 (.ret))
 (.skip)))
 (.seq (.seq (.region [⟨none, some 38, .inl (.mv (.s 2))⟩,
 ⟨none, some 39, .inl (.mv (.s 1))⟩,
 ⟨none, some 40, .inl (.bin .sub (.s 38) (.s 39))⟩,
 ⟨none, some 41, .inl (.bin .lss (.s 40) (.c (.int .i64 50)))⟩])
 (.cond (.s 41) (.seq (.region [⟨none, some 6, .inl (.mv (.c (.bool false)))⟩])
 (.ret))
 (.skip)))
 (.seq (.draw [⟨⟨none, some 42, .inl (.mv (.s 0))⟩, some [], [], 0, false⟩,
 ⟨⟨none, some 43, .inl (.mv (.s 7))⟩, some [], [], 0, false⟩,
 ⟨⟨none, some 44, .inl (.mv (.s 0))⟩, some [], [], 0, false⟩,
 ⟨⟨none, some 45, .inl (.mv (.s 7))⟩, some [], [], 0, false⟩,
 ⟨⟨none, some 46, .inl (.bin .sub (.s 45) (.c (.int .i64 1)))⟩, some [], [], 8, false⟩,
 ⟨⟨none, some 47, .inl (.mv (.s 0))⟩, some [], [], 0, false⟩,
 ⟨⟨none, some 48, .inl (.mv (.s 7))⟩, some [], [], 0, false⟩,
 ⟨⟨none, some 49, .inl (.bin .sub (.s 48) (.c (.int .i64 1)))⟩, some [], [], 64, false⟩,
 ⟨⟨none, some 50, .inl (.ias 1 (.s 47) (.s 49))⟩, some [], [], 224, false⟩,
 ⟨⟨none, some 51, .inl (.ld false 1 (.s 50))⟩, some [], [], 480, false⟩,
 ⟨⟨none, some 52, .inl (.mv (.s 0))⟩, some [], [], 0, false⟩,
 ⟨⟨none, some 53, .inl (.mv (.s 7))⟩, some [], [], 0, false⟩,
 ⟨⟨none, some 54, .inl (.ias 1 (.s 52) (.s 53))⟩, some [], [], 3072, false⟩,
 ⟨⟨none, some 55, .inl (.ld false 1 (.s 54))⟩, some [], [], 7168, false⟩,
 ⟨⟨none, some 56, .inl (.ias 1 (.s 42) (.s 43))⟩, some [], [], 16355, false⟩,
 ⟨⟨none, none, .inl (.st 1 (.s 56) (.s 51))⟩, (some [.at 0]), [], 32739, false⟩,
 ⟨⟨none, some 57, .inl (.ias 1 (.s 44) (.s 46))⟩, some [], [], 65535, false⟩,
 ⟨⟨none, none, .inl (.st 1 (.s 57) (.s 55))⟩, (some [.at 0]), [], 131071, false⟩])
 (.seq (.seq (.region [⟨none, some 58, .inl (.mv (.s 7))⟩,
 ⟨none, some 59, .inl (.mv (.s 1))⟩,
 ⟨none, some 60, .inl (.bin .sub (.s 58) (.s 59))⟩,
 ⟨none, some 61, .inl (.bin .geq (.s 60) (.c (.int .i64 2)))⟩])
 (.cond (.s 61) (.seq (.region [⟨none, some 62, .inl (.mv (.s 7))⟩,
 ⟨none, some 63, .inl (.bin .sub (.s 62) (.c (.int .i64 1)))⟩,
 ⟨none, some 9, .inl (.mv (.s 63))⟩])
 (.block 4 (.loop k131l1)))
 (.skip)))
 (.seq (.region [⟨none, some 95, .inl (.mv (.s 2))⟩,
 ⟨none, some 96, .inl (.mv (.s 7))⟩,
 ⟨none, some 97, .inl (.bin .sub (.s 95) (.s 96))⟩,
 ⟨none, some 98, .inl (.bin .geq (.s 97) (.c (.int .i64 2)))⟩])
 (.cond (.s 98) (.seq (.region [⟨none, some 99, .inl (.mv (.s 7))⟩,
 ⟨none, some 100, .inl (.bin .add (.s 99) (.c (.int .i64 1)))⟩,
 ⟨none, some 10, .inl (.mv (.s 100))⟩])
 (.block 6 (.loop k131l2)))
 (.skip)))))))))
 (.region [⟨none, some 15, .inl (.mv (.s 8))⟩,
 ⟨none, some 16, .inl (.bin .add (.s 15) (.c (.int .i64 1)))⟩,
 ⟨none, some 8, .inl (.mv (.s 16))⟩]))
def k131 : Cd :=
  .seq (.region [⟨none, some 6, .inl (.mv (.c (.bool false)))⟩])
 (.seq (.region [⟨none, some 11, .inl (.mv (.s 1))⟩,
 ⟨none, some 12, .inl (.bin .add (.s 11) (.c (.int .i64 1)))⟩,
 ⟨none, some 7, .inl (.mv (.s 12))⟩])
 (.seq (.seq (.region [⟨none, some 8, .inl (.mv (.c (.int .i64 0)))⟩])
 (.block 0 (.loop k131l3)))
 (.seq (.region [⟨none, some 6, .inl (.mv (.c (.bool false)))⟩])
 (.ret))))
def k132l0 : Cd :=
  .seq (.seq (.draw [⟨⟨none, some 29, .inl (.mv (.s 9))⟩, some [], [], 0, false⟩,
 ⟨⟨none, some 30, .inl (.mv (.s 10))⟩, some [], [], 0, false⟩,
 ⟨⟨none, some 31, .inl (.bin .leq (.s 29) (.s 30))⟩, some [], [], 3, false⟩,
 ⟨⟨none, some 32, .inl (.mv (.s 31))⟩, some [], [], 7, false⟩,
 ⟨⟨some (32, true), some 33, .inl (.mv (.s 0))⟩, some [], [], 15, false⟩,
 ⟨⟨some (32, true), some 34, .inl (.mv (.s 1))⟩, some [], [], 15, false⟩,
 ⟨⟨some (32, true), some 35, .inl (.ias 1 (.s 33) (.s 34))⟩, some [], [], 63, false⟩,
 ⟨⟨some (32, true), some 36, .inl (.ld false 1 (.s 35))⟩, some [], [], 127, false⟩,
 ⟨⟨some (32, true), some 37, .inl (.mv (.s 0))⟩, some [], [], 15, false⟩,
 ⟨⟨some (32, true), some 38, .inl (.mv (.s 9))⟩, some [], [], 15, false⟩,
 ⟨⟨some (32, true), some 39, .inl (.ias 1 (.s 37) (.s 38))⟩, some [], [], 783, false⟩,
 ⟨⟨some (32, true), some 40, .inl (.ld false 1 (.s 39))⟩, some [], [], 1807, false⟩,
 ⟨⟨some (32, true), some 41, .inr (.fn 117 [(.s 36), (.s 40)])⟩, some [], [], 4095, false⟩,
 ⟨⟨some (32, true), some 42, .inl (.not (.s 41))⟩, some [], [], 8191, false⟩,
 ⟨⟨none, some 43, .inl (.pick (.s 32) (.s 42) (.c (.bool false)))⟩, some [], [], 16383, false⟩])
 (.cond (.s 43) (.skip)
 (.exit 2)))
 (.block 3 (.region [⟨none, some 44, .inl (.mv (.s 9))⟩,
 ⟨none, some 45, .inl (.bin .add (.s 44) (.c (.int .i64 1)))⟩,
 ⟨none, some 9, .inl (.mv (.s 45))⟩]))
def k132l1 : Cd :=
  .seq (.seq (.draw [⟨⟨none, some 46, .inl (.mv (.s 9))⟩, some [], [], 0, false⟩,
 ⟨⟨none, some 47, .inl (.mv (.s 10))⟩, some [], [], 0, false⟩,
 ⟨⟨none, some 48, .inl (.bin .leq (.s 46) (.s 47))⟩, some [], [], 3, false⟩,
 ⟨⟨none, some 49, .inl (.mv (.s 48))⟩, some [], [], 7, false⟩,
 ⟨⟨some (49, true), some 50, .inl (.mv (.s 0))⟩, some [], [], 15, false⟩,
 ⟨⟨some (49, true), some 51, .inl (.mv (.s 1))⟩, some [], [], 15, false⟩,
 ⟨⟨some (49, true), some 52, .inl (.ias 1 (.s 50) (.s 51))⟩, some [], [], 63, false⟩,
 ⟨⟨some (49, true), some 53, .inl (.ld false 1 (.s 52))⟩, some [], [], 127, false⟩,
 ⟨⟨some (49, true), some 54, .inl (.mv (.s 0))⟩, some [], [], 15, false⟩,
 ⟨⟨some (49, true), some 55, .inl (.mv (.s 10))⟩, some [], [], 15, false⟩,
 ⟨⟨some (49, true), some 56, .inl (.ias 1 (.s 54) (.s 55))⟩, some [], [], 783, false⟩,
 ⟨⟨some (49, true), some 57, .inl (.ld false 1 (.s 56))⟩, some [], [], 1807, false⟩,
 ⟨⟨some (49, true), some 58, .inr (.fn 117 [(.s 53), (.s 57)])⟩, some [], [], 4095, false⟩,
 ⟨⟨none, some 59, .inl (.pick (.s 49) (.s 58) (.c (.bool false)))⟩, some [], [], 8191, false⟩])
 (.cond (.s 59) (.skip)
 (.exit 4)))
 (.block 5 (.region [⟨none, some 60, .inl (.mv (.s 10))⟩,
 ⟨none, some 61, .inl (.bin .sub (.s 60) (.c (.int .i64 1)))⟩,
 ⟨none, some 10, .inl (.mv (.s 61))⟩]))
def k132l2 : Cd :=
  .block 1 (.seq (.block 2 (.loop k132l0))
 (.seq (.block 4 (.loop k132l1))
 (.seq (.seq (.region [⟨none, some 62, .inl (.mv (.s 9))⟩,
 ⟨none, some 63, .inl (.mv (.s 10))⟩,
 ⟨none, some 64, .inl (.bin .gtr (.s 62) (.s 63))⟩])
 (.cond (.s 64) (.exit 0)
 (.skip)))
 (.seq (.draw [⟨⟨none, some 65, .inl (.mv (.s 0))⟩, some [], [], 0, false⟩,
 ⟨⟨none, some 66, .inl (.mv (.s 9))⟩, some [], [], 0, false⟩,
 ⟨⟨none, some 67, .inl (.mv (.s 0))⟩, some [], [], 0, false⟩,
 ⟨⟨none, some 68, .inl (.mv (.s 10))⟩, some [], [], 0, false⟩,
 ⟨⟨none, some 69, .inl (.mv (.s 0))⟩, some [], [], 0, false⟩,
 ⟨⟨none, some 70, .inl (.mv (.s 10))⟩, some [], [], 0, false⟩,
 ⟨⟨none, some 71, .inl (.ias 1 (.s 69) (.s 70))⟩, some [], [], 48, false⟩,
 ⟨⟨none, some 72, .inl (.ld false 1 (.s 71))⟩, some [], [], 112, false⟩,
 ⟨⟨none, some 73, .inl (.mv (.s 0))⟩, some [], [], 0, false⟩,
 ⟨⟨none, some 74, .inl (.mv (.s 9))⟩, some [], [], 0, false⟩,
 ⟨⟨none, some 75, .inl (.ias 1 (.s 73) (.s 74))⟩, some [], [], 768, false⟩,
 ⟨⟨none, some 76, .inl (.ld false 1 (.s 75))⟩, some [], [], 1792, false⟩,
 ⟨⟨none, some 77, .inl (.ias 1 (.s 65) (.s 66))⟩, some [], [], 4083, false⟩,
 ⟨⟨none, none, .inl (.st 1 (.s 77) (.s 72))⟩, (some [.at 0]), [], 8179, false⟩,
 ⟨⟨none, some 78, .inl (.ias 1 (.s 67) (.s 68))⟩, some [], [], 16383, false⟩,
 ⟨⟨none, none, .inl (.st 1 (.s 78) (.s 76))⟩, (some [.at 0]), [], 32767, false⟩])
 (.seq (.region [⟨none, some 79, .inl (.mv (.s 9))⟩,
 ⟨none, some 80, .inl (.bin .add (.s 79) (.c (.int .i64 1)))⟩,
 ⟨none, some 9, .inl (.mv (.s 80))⟩])
 (.region [⟨none, some 81, .inl (.mv (.s 10))⟩,
 ⟨none, some 82, .inl (.bin .sub (.s 81) (.c (.int .i64 1)))⟩,
 ⟨none, some 10, .inl (.mv (.s 82))⟩]))))))
def k132 : Cd :=
  .seq (.region [⟨none, some 8, .inl (.mv (.c (.int .i64 0)))⟩])
 (.seq (.draw [⟨⟨none, some 11, .inl (.mv (.s 0))⟩, some [], [], 0, false⟩,
 ⟨⟨none, some 12, .inl (.mv (.s 1))⟩, some [], [], 0, false⟩,
 ⟨⟨none, some 13, .inl (.mv (.s 0))⟩, some [], [], 0, false⟩,
 ⟨⟨none, some 14, .inl (.mv (.s 3))⟩, some [], [], 0, false⟩,
 ⟨⟨none, some 15, .inl (.mv (.s 0))⟩, some [], [], 0, false⟩,
 ⟨⟨none, some 16, .inl (.mv (.s 3))⟩, some [], [], 0, false⟩,
 ⟨⟨none, some 17, .inl (.ias 1 (.s 15) (.s 16))⟩, some [], [], 48, false⟩,
 ⟨⟨none, some 18, .inl (.ld false 1 (.s 17))⟩, some [], [], 112, false⟩,
 ⟨⟨none, some 19, .inl (.mv (.s 0))⟩, some [], [], 0, false⟩,
 ⟨⟨none, some 20, .inl (.mv (.s 1))⟩, some [], [], 0, false⟩,
 ⟨⟨none, some 21, .inl (.ias 1 (.s 19) (.s 20))⟩, some [], [], 768, false⟩,
 ⟨⟨none, some 22, .inl (.ld false 1 (.s 21))⟩, some [], [], 1792, false⟩,
 ⟨⟨none, some 23, .inl (.ias 1 (.s 11) (.s 12))⟩, some [], [], 4083, false⟩,
 ⟨⟨none, none, .inl (.st 1 (.s 23) (.s 18))⟩, (some [.at 0]), [], 8179, false⟩,
 ⟨⟨none, some 24, .inl (.ias 1 (.s 13) (.s 14))⟩, some [], [], 16383, false⟩,
 ⟨⟨none, none, .inl (.st 1 (.s 24) (.s 22))⟩, (some [.at 0]), [], 32767, false⟩])
 (.seq (.region [⟨none, some 25, .inl (.mv (.s 1))⟩,
 ⟨none, some 26, .inl (.bin .add (.s 25) (.c (.int .i64 1)))⟩,
 ⟨none, some 27, .inl (.mv (.s 2))⟩,
 ⟨none, some 28, .inl (.bin .sub (.s 27) (.c (.int .i64 1)))⟩,
 ⟨none, some 9, .inl (.mv (.s 26))⟩,
 ⟨none, some 10, .inl (.mv (.s 28))⟩])
 (.seq (.block 0 (.loop k132l2))
 (.seq (.region [⟨none, some 83, .inl (.mv (.s 9))⟩,
 ⟨none, some 8, .inl (.mv (.s 83))⟩])
 (.ret)))))
def k133l0 : Cd :=
  .seq (.seq (.draw [⟨⟨none, some 30, .inl (.mv (.s 10))⟩, some [], [], 0, false⟩,
 ⟨⟨none, some 31, .inl (.mv (.s 11))⟩, some [], [], 0, false⟩,
 ⟨⟨none, some 32, .inl (.bin .leq (.s 30) (.s 31))⟩, some [], [], 3, false⟩,
 ⟨⟨none, some 33, .inl (.mv (.s 32))⟩, some [], [], 7, false⟩,
 ⟨⟨some (33, true), some 34, .inl (.mv (.s 0))⟩, some [], [], 15, false⟩,
 ⟨⟨some (33, true), some 35, .inl (.mv (.s 10))⟩, some [], [], 15, false⟩,
 ⟨⟨some (33, true), some 36, .inl (.ias 1 (.s 34) (.s 35))⟩, some [], [], 63, false⟩,
 ⟨⟨some (33, true), some 37, .inl (.ld false 1 (.s 36))⟩, some [], [], 127, false⟩,
 ⟨⟨some (33, true), some 38, .inl (.mv (.s 0))⟩, some [], [], 15, false⟩,
 ⟨⟨some (33, true), some 39, .inl (.mv (.s 1))⟩, some [], [], 15, false⟩,
 ⟨⟨some (33, true), some 40, .inl (.ias 1 (.s 38) (.s 39))⟩, some [], [], 783, false⟩,
 ⟨⟨some (33, true), some 41, .inl (.ld false 1 (.s 40))⟩, some [], [], 1807, false⟩,
 ⟨⟨some (33, true), some 42, .inr (.fn 117 [(.s 37), (.s 41)])⟩, some [], [], 4095, false⟩,
 ⟨⟨none, some 43, .inl (.pick (.s 33) (.s 42) (.c (.bool false)))⟩, some [], [], 8191, false⟩])
 (.cond (.s 43) (.skip)
 (.exit 0)))
 (.block 1 (.region [⟨none, some 44, .inl (.mv (.s 10))⟩,
 ⟨none, some 45, .inl (.bin .add (.s 44) (.c (.int .i64 1)))⟩,
 ⟨none, some 10, .inl (.mv (.s 45))⟩]))
def k133l1 : Cd :=
  .seq (.seq (.draw [⟨⟨none, some 46, .inl (.mv (.s 10))⟩, some [], [], 0, false⟩,
 ⟨⟨none, some 47, .inl (.mv (.s 11))⟩, some [], [], 0, false⟩,
 ⟨⟨none, some 48, .inl (.bin .leq (.s 46) (.s 47))⟩, some [], [], 3, false⟩,
 ⟨⟨none, some 49, .inl (.mv (.s 48))⟩, some [], [], 7, false⟩,
 ⟨⟨some (49, true), some 50, .inl (.mv (.s 0))⟩, some [], [], 15, false⟩,
 ⟨⟨some (49, true), some 51, .inl (.mv (.s 11))⟩, some [], [], 15, false⟩,
 ⟨⟨some (49, true), some 52, .inl (.ias 1 (.s 50) (.s 51))⟩, some [], [], 63, false⟩,
 ⟨⟨some (49, true), some 53, .inl (.ld false 1 (.s 52))⟩, some [], [], 127, false⟩,
 ⟨⟨some (49, true), some 54, .inl (.mv (.s 0))⟩, some [], [], 15, false⟩,
 ⟨⟨some (49, true), some 55, .inl (.mv (.s 1))⟩, some [], [], 15, false⟩,
 ⟨⟨some (49, true), some 56, .inl (.ias 1 (.s 54) (.s 55))⟩, some [], [], 783, false⟩,
 ⟨⟨some (49, true), some 57, .inl (.ld false 1 (.s 56))⟩, some [], [], 1807, false⟩,
 ⟨⟨some (49, true), some 58, .inr (.fn 117 [(.s 53), (.s 57)])⟩, some [], [], 4095, false⟩,
 ⟨⟨some (49, true), some 59, .inl (.not (.s 58))⟩, some [], [], 8191, false⟩,
 ⟨⟨none, some 60, .inl (.pick (.s 49) (.s 59) (.c (.bool false)))⟩, some [], [], 16383, false⟩])
 (.cond (.s 60) (.skip)
 (.exit 2)))
 (.block 3 (.region [⟨none, some 61, .inl (.mv (.s 11))⟩,
 ⟨none, some 62, .inl (.bin .sub (.s 61) (.c (.int .i64 1)))⟩,
 ⟨none, some 11, .inl (.mv (.s 62))⟩]))
def k133l2 : Cd :=
  .seq (.seq (.draw [⟨⟨none, some 99, .inl (.mv (.s 10))⟩, some [], [], 0, false⟩,
 ⟨⟨none, some 100, .inl (.mv (.s 11))⟩, some [], [], 0, false⟩,
 ⟨⟨none, some 101, .inl (.bin .leq (.s 99) (.s 100))⟩, some [], [], 3, false⟩,
 ⟨⟨none, some 102, .inl (.mv (.s 101))⟩, some [], [], 7, false⟩,
 ⟨⟨some (102, true), some 103, .inl (.mv (.s 0))⟩, some [], [], 15, false⟩,
 ⟨⟨some (102, true), some 104, .inl (.mv (.s 10))⟩, some [], [], 15, false⟩,
 ⟨⟨some (102, true), some 105, .inl (.ias 1 (.s 103) (.s 104))⟩, some [], [], 63, false⟩,
 ⟨⟨some (102, true), some 106, .inl (.ld false 1 (.s 105))⟩, some [], [], 127, false⟩,
 ⟨⟨some (102, true), some 107, .inl (.mv (.s 0))⟩, some [], [], 15, false⟩,
 ⟨⟨some (102, true), some 108, .inl (.mv (.s 1))⟩, some [], [], 15, false⟩,
 ⟨⟨some (102, true), some 109, .inl (.ias 1 (.s 107) (.s 108))⟩, some [], [], 783, false⟩,
 ⟨⟨some (102, true), some 110, .inl (.ld false 1 (.s 109))⟩, some [], [], 1807, false⟩,
 ⟨⟨some (102, true), some 111, .inr (.fn 117 [(.s 106), (.s 110)])⟩, some [], [], 4095, false⟩,
 ⟨⟨none, some 112, .inl (.pick (.s 102) (.s 111) (.c (.bool false)))⟩, some [], [], 8191, false⟩])
 (.cond (.s 112) (.skip)
 (.exit 6)))
 (.block 7 (.region [⟨none, some 113, .inl (.mv (.s 10))⟩,
 ⟨none, some 114, .inl (.bin .add (.s 113) (.c (.int .i64 1)))⟩,
 ⟨none, some 10, .inl (.mv (.s 114))⟩]))
def k133l3 : Cd :=
  .seq (.seq (.draw [⟨⟨none, some 115, .inl (.mv (.s 10))⟩, some [], [], 0, false⟩,
 ⟨⟨none, some 116, .inl (.mv (.s 11))⟩, some [], [], 0, false⟩,
 ⟨⟨none, some 117, .inl (.bin .leq (.s 115) (.s 116))⟩, some [], [], 3, false⟩,
 ⟨⟨none, some 118, .inl (.mv (.s 117))⟩, some [], [], 7, false⟩,
 ⟨⟨some (118, true), some 119, .inl (.mv (.s 0))⟩, some [], [], 15, false⟩,
 ⟨⟨some (118, true), some 120, .inl (.mv (.s 11))⟩, some [], [], 15, false⟩,
 ⟨⟨some (118, true), some 121, .inl (.ias 1 (.s 119) (.s 120))⟩, some [], [], 63, false⟩,
 ⟨⟨some (118, true), some 122, .inl (.ld false 1 (.s 121))⟩, some [], [], 127, false⟩,
 ⟨⟨some (118, true), some 123, .inl (.mv (.s 0))⟩, some [], [], 15, false⟩,
 ⟨⟨some (118, true), some 124, .inl (.mv (.s 1))⟩, some [], [], 15, false⟩,
 ⟨⟨some (118, true), some 125, .inl (.ias 1 (.s 123) (.s 124))⟩, some [], [], 783, false⟩,
 ⟨⟨some (118, true), some 126, .inl (.ld false 1 (.s 125))⟩, some [], [], 1807, false⟩,
 ⟨⟨some (118, true), some 127, .inr (.fn 117 [(.s 122), (.s 126)])⟩, some [], [], 4095, false⟩,
 ⟨⟨some (118, true), some 128, .inl (.not (.s 127))⟩, some [], [], 8191, false⟩,
 ⟨⟨none, some 129, .inl (.pick (.s 118) (.s 128) (.c (.bool false)))⟩, some [], [], 16383, false⟩])
 (.cond (.s 129) (.skip)
 (.exit 8)))
 (.block 9 (.region [⟨none, some 130, .inl (.mv (.s 11))⟩,
 ⟨none, some 131, .inl (.bin .sub (.s 130) (.c (.int .i64 1)))⟩,
 ⟨none, some 11, .inl (.mv (.s 131))⟩]))
def k133l4 : Cd :=
  .block 5 (.seq (.block 6 (.loop k133l2))
 (.seq (.block 8 (.loop k133l3))
 (.seq (.seq (.region [⟨none, some 132, .inl (.mv (.s 10))⟩,
 ⟨none, some 133, .inl (.mv (.s 11))⟩,
 ⟨none, some 134, .inl (.bin .gtr (.s 132) (.s 133))⟩])
 (.cond (.s 134) (.exit 4)
 (.skip)))
 (.seq (.draw [⟨⟨none, some 135, .inl (.mv (.s 0))⟩, some [], [], 0, false⟩,
 ⟨⟨none, some 136, .inl (.mv (.s 10))⟩, some [], [], 0, false⟩,
 ⟨⟨none, some 137, .inl (.mv (.s 0))⟩, some [], [], 0, false⟩,
 ⟨⟨none, some 138, .inl (.mv (.s 11))⟩, some [], [], 0, false⟩,
 ⟨⟨none, some 139, .inl (.mv (.s 0))⟩, some [], [], 0, false⟩,
 ⟨⟨none, some 140, .inl (.mv (.s 11))⟩, some [], [], 0, false⟩,
 ⟨⟨none, some 141, .inl (.ias 1 (.s 139) (.s 140))⟩, some [], [], 48, false⟩,
 ⟨⟨none, some 142, .inl (.ld false 1 (.s 141))⟩, some [], [], 112, false⟩,
 ⟨⟨none, some 143, .inl (.mv (.s 0))⟩, some [], [], 0, false⟩,
 ⟨⟨none, some 144, .inl (.mv (.s 10))⟩, some [], [], 0, false⟩,
 ⟨⟨none, some 145, .inl (.ias 1 (.s 143) (.s 144))⟩, some [], [], 768, false⟩,
 ⟨⟨none, some 146, .inl (.ld false 1 (.s 145))⟩, some [], [], 1792, false⟩,
 ⟨⟨none, some 147, .inl (.ias 1 (.s 135) (.s 136))⟩, some [], [], 4083, false⟩,
 ⟨⟨none, none, .inl (.st 1 (.s 147) (.s 142))⟩, (some [.at 0]), [], 8179, false⟩,
 ⟨⟨none, some 148, .inl (.ias 1 (.s 137) (.s 138))⟩, some [], [], 16383, false⟩,
 ⟨⟨none, none, .inl (.st 1 (.s 148) (.s 146))⟩, (some [.at 0]), [], 32767, false⟩])
 (.seq (.region [⟨none, some 149, .inl (.mv (.s 10))⟩,
 ⟨none, some 150, .inl (.bin .add (.s 149) (.c (.int .i64 1)))⟩,
 ⟨none, some 10, .inl (.mv (.s 150))⟩])
 (.region [⟨none, some 151, .inl (.mv (.s 11))⟩,
 ⟨none, some 152, .inl (.bin .sub (.s 151) (.c (.int .i64 1)))⟩,
 ⟨none, some 11, .inl (.mv (.s 152))⟩]))))))
def k133 : Cd :=
  .seq (.region [⟨none, some 8, .inl (.mv (.c (.int .i64 0)))⟩,
 ⟨none, some 9, .inl (.mv (.c (.bool false)))⟩])
 (.seq (.draw [⟨⟨none, some 12, .inl (.mv (.s 0))⟩, some [], [], 0, false⟩,
 ⟨⟨none, some 13, .inl (.mv (.s 1))⟩, some [], [], 0, false⟩,
 ⟨⟨none, some 14, .inl (.mv (.s 0))⟩, some [], [], 0, false⟩,
 ⟨⟨none, some 15, .inl (.mv (.s 3))⟩, some [], [], 0, false⟩,
 ⟨⟨none, some 16, .inl (.mv (.s 0))⟩, some [], [], 0, false⟩,
 ⟨⟨none, some 17, .inl (.mv (.s 3))⟩, some [], [], 0, false⟩,
 ⟨⟨none, some 18, .inl (.ias 1 (.s 16) (.s 17))⟩, some [], [], 48, false⟩,
 ⟨⟨none, some 19, .inl (.ld false 1 (.s 18))⟩, some [], [], 112, false⟩,
 ⟨⟨none, some 20, .inl (.mv (.s 0))⟩, some [], [], 0, false⟩,
 ⟨⟨none, some 21, .inl (.mv (.s 1))⟩, some [], [], 0, false⟩,
 ⟨⟨none, some 22, .inl (.ias 1 (.s 20) (.s 21))⟩, some [], [], 768, false⟩,
 ⟨⟨none, some 23, .inl (.ld false 1 (.s 22))⟩, some [], [], 1792, false⟩,
 ⟨⟨none, some 24, .inl (.ias 1 (.s 12) (.s 13))⟩, some [], [], 4083, false⟩,
 ⟨⟨none, none, .inl (.st 1 (.s 24) (.s 19))⟩, (some [.at 0]), [], 8179, false⟩,
 ⟨⟨none, some 25, .inl (.ias 1 (.s 14) (.s 15))⟩, some [], [], 16383, false⟩,
 ⟨⟨none, none, .inl (.st 1 (.s 25) (.s 23))⟩, (some [.at 0]), [], 32767, false⟩])
 (.seq (.region [⟨none, some 26, .inl (.mv (.s 1))⟩,
 ⟨none, some 27, .inl (.bin .add (.s 26) (.c (.int .i64 1)))⟩,
 ⟨none, some 28, .inl (.mv (.s 2))⟩,
 ⟨none, some 29, .inl (.bin .sub (.s 28) (.c (.int .i64 1)))⟩,
 ⟨none, some 10, .inl (.mv (.s 27))⟩,
 ⟨none, some 11, .inl (.mv (.s 29))⟩])
 (.seq (.block 0 (.loop k133l0))
 (.seq (.block 2 (.loop k133l1))
 (.seq (.seq (.region [⟨none, some 63, .inl (.mv (.s 10))⟩,
 ⟨none, some 64, .inl (.mv (.s 11))⟩,
 ⟨none, some 65, .inl (.bin .gtr (.s 63) (.s 64))⟩])
 (.cond (.s 65) (.seq (.draw [⟨⟨none, some 66, .inl (.mv (.s 0))⟩, some [], [], 0, false⟩,
 ⟨⟨none, some 67, .inl (.mv (.s 11))⟩, some [], [], 0, false⟩,
 ⟨⟨none, some 68, .inl (.mv (.s 0))⟩, some [], [], 0, false⟩,
 ⟨⟨none, some 69, .inl (.mv (.s 1))⟩, some [], [], 0, false⟩,
 ⟨⟨none, some 70, .inl (.mv (.s 0))⟩, some [], [], 0, false⟩,
 ⟨⟨none, some 71, .inl (.mv (.s 1))⟩, some [], [], 0, false⟩,
 ⟨⟨none, some 72, .inl (.ias 1 (.s 70) (.s 71))⟩, some [], [], 48, false⟩,
 ⟨⟨none, some 73, .inl (.ld false 1 (.s 72))⟩, some [], [], 112, false⟩,
 ⟨⟨none, some 74, .inl (.mv (.s 0))⟩, some [], [], 0, false⟩,
 ⟨⟨none, some 75, .inl (.mv (.s 11))⟩, some [], [], 0, false⟩,
 ⟨⟨none, some 76, .inl (.ias 1 (.s 74) (.s 75))⟩, some [], [], 768, false⟩,
 ⟨⟨none, some 77, .inl (.ld false 1 (.s 76))⟩, some [], [], 1792, false⟩,
 ⟨⟨none, some 78, .inl (.ias 1 (.s 66) (.s 67))⟩, some [], [], 4083, false⟩,
 ⟨⟨none, none, .inl (.st 1 (.s 78) (.s 73))⟩, (some [.at 0]), [], 8179, false⟩,
 ⟨⟨none, some 79, .inl (.ias 1 (.s 68) (.s 69))⟩, some [], [], 16383, false⟩,
 ⟨⟨none, none, .inl (.st 1 (.s 79) (.s 77))⟩, (some [.at 0]), [], 32767, false⟩])
 (.seq (.region [⟨none, some 80, .inl (.mv (.s 11))⟩,
 ⟨none, some 8, .inl (.mv (.s 80))⟩,
 ⟨none, some 9, .inl (.mv (.c (.bool true)))⟩])
 (.ret)))
 (.skip)))
 (.seq (.draw [⟨⟨none, some 81, .inl (.mv (.s 0))⟩, some [], [], 0, false⟩,
 ⟨⟨none, some 82, .inl (.mv (.s 10))⟩, some [], [], 0, false⟩,
 ⟨⟨none, some 83, .inl (.mv (.s 0))⟩, some [], [], 0, false⟩,
 ⟨⟨none, some 84, .inl (.mv (.s 11))⟩, some [], [], 0, false⟩,
 ⟨⟨none, some 85, .inl (.mv (.s 0))⟩, some [], [], 0, false⟩,
 ⟨⟨none, some 86, .inl (.mv (.s 11))⟩, some [], [], 0, false⟩,
 ⟨⟨none, some 87, .inl (.ias 1 (.s 85) (.s 86))⟩, some [], [], 48, false⟩,
 ⟨⟨none, some 88, .inl (.ld false 1 (.s 87))⟩, some [], [], 112, false⟩,
 ⟨⟨none, some 89, .inl (.mv (.s 0))⟩, some [], [], 0, false⟩,
 ⟨⟨none, some 90, .inl (.mv (.s 10))⟩, some [], [], 0, false⟩,
 ⟨⟨none, some 91, .inl (.ias 1 (.s 89) (.s 90))⟩, some [], [], 768, false⟩,
 ⟨⟨none, some 92, .inl (.ld false 1 (.s 91))⟩, some [], [], 1792, false⟩,
 ⟨⟨none, some 93, .inl (.ias 1 (.s 81) (.s 82))⟩, some [], [], 4083, false⟩,
 ⟨⟨none, none, .inl (.st 1 (.s 93) (.s 88))⟩, (some [.at 0]), [], 8179, false⟩,
 ⟨⟨none, some 94, .inl (.ias 1 (.s 83) (.s 84))⟩, some [], [], 16383, false⟩,
 ⟨⟨none, none, .inl (.st 1 (.s 94) (.s 92))⟩, (some [.at 0]), [], 32767, false⟩])
 (.seq (.region [⟨none, some 95, .inl (.mv (.s 10))⟩,
 ⟨none, some 96, .inl (.bin .add (.s 95) (.c (.int .i64 1)))⟩,
 ⟨none, some 10, .inl (.mv (.s 96))⟩])
 (.seq (.region [⟨none, some 97, .inl (.mv (.s 11))⟩,
 ⟨none, some 98, .inl (.bin .sub (.s 97) (.c (.int .i64 1)))⟩,
 ⟨none, some 11, .inl (.mv (.s 98))⟩])
 (.seq (.block 4 (.loop k133l4))
 (.seq (.draw [⟨⟨none, some 153, .inl (.mv (.s 0))⟩, some [], [], 0, false⟩,
 ⟨⟨none, some 154, .inl (.mv (.s 11))⟩, some [], [], 0, false⟩,
 ⟨⟨none, some 155, .inl (.mv (.s 0))⟩, some [], [], 0, false⟩,
 ⟨⟨none, some 156, .inl (.mv (.s 1))⟩, some [], [], 0, false⟩,
 ⟨⟨none, some 157, .inl (.mv (.s 0))⟩, some [], [], 0, false⟩,
 ⟨⟨none, some 158, .inl (.mv (.s 1))⟩, some [], [], 0, false⟩,
 ⟨⟨none, some 159, .inl (.ias 1 (.s 157) (.s 158))⟩, some [], [], 48, false⟩,
 ⟨⟨none, some 160, .inl (.ld false 1 (.s 159))⟩, some [], [], 112, false⟩,
 ⟨⟨none, some 161, .inl (.mv (.s 0))⟩, some [], [], 0, false⟩,
 ⟨⟨none, some 162, .inl (.mv (.s 11))⟩, some [], [], 0, false⟩,
 ⟨⟨none, some 163, .inl (.ias 1 (.s 161) (.s 162))⟩, some [], [], 768, false⟩,
 ⟨⟨none, some 164, .inl (.ld false 1 (.s 163))⟩, some [], [], 1792, false⟩,
 ⟨⟨none, some 165, .inl (.ias 1 (.s 153) (.s 154))⟩, some [], [], 4083, false⟩,
 ⟨⟨none, none, .inl (.st 1 (.s 165) (.s 160))⟩, (some [.at 0]), [], 8179, false⟩,
 ⟨⟨none, some 166, .inl (.ias 1 (.s 155) (.s 156))⟩, some [], [], 16383, false⟩,
 ⟨⟨none, none, .inl (.st 1 (.s 166) (.s 164))⟩, (some [.at 0]), [], 32767, false⟩])
 (.seq (.region [⟨none, some 167, .inl (.mv (.s 11))⟩,
 ⟨none, some 8, .inl (.mv (.s 167))⟩,
 ⟨none, some 9, .inl (.mv (.c (.bool false)))⟩])
 (.ret))))))))))))
def k134 : Cd :=
  .seq (.region [⟨none, some 2, .inl (.mv (.c (.int .i64 0)))⟩])
 (.seq (.seq (.region [⟨none, some 3, .inl (.mv (.s 0))⟩,
 ⟨none, some 4, .inl (.bin .geq (.s 3) (.c (.int .u32 65536)))⟩])
 (.cond (.s 4) (.seq (.region [⟨none, some 5, .inl (.mv (.s 0))⟩,
 ⟨none, some 6, .inl (.bin .shr (.s 5) (.c (.int .u64 16)))⟩,
 ⟨none, some 0, .inl (.mv (.s 6))⟩])
 (.region [⟨none, some 2, .inl (.mv (.c (.int .i64 16)))⟩]))
 (.skip)))
 (.seq (.seq (.region [⟨none, some 7, .inl (.mv (.s 0))⟩,
 ⟨none, some 8, .inl (.bin .geq (.s 7) (.c (.int .u32 256)))⟩])
 (.cond (.s 8) (.seq (.region [⟨none, some 9, .inl (.mv (.s 0))⟩,
 ⟨none, some 10, .inl (.bin .shr (.s 9) (.c (.int .u64 8)))⟩,
 ⟨none, some 0, .inl (.mv (.s 10))⟩])
 (.region [⟨none, some 11, .inl (.mv (.s 2))⟩,
 ⟨none, some 12, .inl (.bin .add (.s 11) (.c (.int .i64 8)))⟩,
 ⟨none, some 2, .inl (.mv (.s 12))⟩]))
 (.skip)))
 (.seq (.region [⟨none, some 13, .inl (.mv (.s 2))⟩,
 ⟨none, some 14, .inl (.mv (.s 0))⟩,
 ⟨none, some 15, .inl (.cvi .u8 (.s 14))⟩,
 ⟨none, some 16, .inl (.ixs (.c (.string ⟨#[0, 1, 2, 2, 3, 3, 3, 3, 4, 4, 4, 4, 4, 4, 4, 4, 5, 5, 5, 5, 5, 5, 5, 5, 5, 5, 5, 5, 5, 5, 5, 5, 6, 6, 6, 6, 6, 6, 6, 6, 6, 6, 6, 6, 6, 6, 6, 6, 6, 6, 6, 6, 6, 6, 6, 6, 6, 6, 6, 6, 6, 6, 6, 6, 7, 7, 7, 7, 7, 7, 7, 7, 7, 7, 7, 7, 7, 7, 7, 7, 7, 7, 7, 7, 7, 7, 7, 7, 7, 7, 7, 7, 7, 7, 7, 7, 7, 7, 7, 7, 7, 7, 7, 7, 7, 7, 7, 7, 7, 7, 7, 7, 7, 7, 7, 7, 7, 7, 7, 7, 7, 7, 7, 7, 7, 7, 7, 7, 8, 8, 8, 8, 8, 8, 8, 8, 8, 8, 8, 8, 8, 8, 8, 8, 8, 8, 8, 8, 8, 8, 8, 8, 8, 8, 8, 8, 8, 8, 8, 8, 8, 8, 8, 8, 8, 8, 8, 8, 8, 8, 8, 8, 8, 8, 8, 8, 8, 8, 8, 8, 8, 8, 8, 8, 8, 8, 8, 8, 8, 8, 8, 8, 8, 8, 8, 8, 8, 8, 8, 8, 8, 8, 8, 8, 8, 8, 8, 8, 8, 8, 8, 8, 8, 8, 8, 8, 8, 8, 8, 8, 8, 8, 8, 8, 8, 8, 8, 8, 8, 8, 8, 8, 8, 8, 8, 8, 8, 8, 8, 8, 8, 8, 8, 8, 8, 8, 8, 8, 8, 8, 8, 8, 8, 8, 8, 8]⟩)) (.s 15))⟩,
 ⟨none, some 17, .inl (.cvi .i64 (.s 16))⟩,
 ⟨none, some 18, .inl (.bin .add (.s 13) (.s 17))⟩,
 ⟨none, some 2, .inl (.mv (.s 18))⟩])
 (.ret))))
def k135 : Cd :=
  .seq (.region [⟨none, some 2, .inl (.mv (.c (.int .i64 0)))⟩])
 (.seq (.seq (.region [⟨none, some 3, .inl (.mv (.s 0))⟩,
 ⟨none, some 4, .inl (.bin .geq (.s 3) (.c (.int .u64 4294967296)))⟩])
 (.cond (.s 4) (.seq (.region [⟨none, some 5, .inl (.mv (.s 0))⟩,
 ⟨none, some 6, .inl (.bin .shr (.s 5) (.c (.int .u64 32)))⟩,
 ⟨none, some 0, .inl (.mv (.s 6))⟩])
 (.region [⟨none, some 2, .inl (.mv (.c (.int .i64 32)))⟩]))
 (.skip)))
 (.seq (.seq (.region [⟨none, some 7, .inl (.mv (.s 0))⟩,
 ⟨none, some 8, .inl (.bin .geq (.s 7) (.c (.int .u64 65536)))⟩])
 (.cond (.s 8) (.seq (.region [⟨none, some 9, .inl (.mv (.s 0))⟩,
 ⟨none, some 10, .inl (.bin .shr (.s 9) (.c (.int .u64 16)))⟩,
 ⟨none, some 0, .inl (.mv (.s 10))⟩])
 (.region [⟨none, some 11, .inl (.mv (.s 2))⟩,
 ⟨none, some 12, .inl (.bin .add (.s 11) (.c (.int .i64 16)))⟩,
 ⟨none, some 2, .inl (.mv (.s 12))⟩]))
 (.skip)))
 (.seq (.seq (.region [⟨none, some 13, .inl (.mv (.s 0))⟩,
 ⟨none, some 14, .inl (.bin .geq (.s 13) (.c (.int .u64 256)))⟩])
 (.cond (.s 14) (.seq (.region [⟨none, some 15, .inl (.mv (.s 0))⟩,
 ⟨none, some 16, .inl (.bin .shr (.s 15) (.c (.int .u64 8)))⟩,
 ⟨none, some 0, .inl (.mv (.s 16))⟩])
 (.region [⟨none, some 17, .inl (.mv (.s 2))⟩,
 ⟨none, some 18, .inl (.bin .add (.s 17) (.c (.int .i64 8)))⟩,
 ⟨none, some 2, .inl (.mv (.s 18))⟩]))
 (.skip)))
 (.seq (.region [⟨none, some 19, .inl (.mv (.s 2))⟩,
 ⟨none, some 20, .inl (.mv (.s 0))⟩,
 ⟨none, some 21, .inl (.cvi .u8 (.s 20))⟩,
 ⟨none, some 22, .inl (.ixs (.c (.string ⟨#[0, 1, 2, 2, 3, 3, 3, 3, 4, 4, 4, 4, 4, 4, 4, 4, 5, 5, 5, 5, 5, 5, 5, 5, 5, 5, 5, 5, 5, 5, 5, 5, 6, 6, 6, 6, 6, 6, 6, 6, 6, 6, 6, 6, 6, 6, 6, 6, 6, 6, 6, 6, 6, 6, 6, 6, 6, 6, 6, 6, 6, 6, 6, 6, 7, 7, 7, 7, 7, 7, 7, 7, 7, 7, 7, 7, 7, 7, 7, 7, 7, 7, 7, 7, 7, 7, 7, 7, 7, 7, 7, 7, 7, 7, 7, 7, 7, 7, 7, 7, 7, 7, 7, 7, 7, 7, 7, 7, 7, 7, 7, 7, 7, 7, 7, 7, 7, 7, 7, 7, 7, 7, 7, 7, 7, 7, 7, 7, 8, 8, 8, 8, 8, 8, 8, 8, 8, 8, 8, 8, 8, 8, 8, 8, 8, 8, 8, 8, 8, 8, 8, 8, 8, 8, 8, 8, 8, 8, 8, 8, 8, 8, 8, 8, 8, 8, 8, 8, 8, 8, 8, 8, 8, 8, 8, 8, 8, 8, 8, 8, 8, 8, 8, 8, 8, 8, 8, 8, 8, 8, 8, 8, 8, 8, 8, 8, 8, 8, 8, 8, 8, 8, 8, 8, 8, 8, 8, 8, 8, 8, 8, 8, 8, 8, 8, 8, 8, 8, 8, 8, 8, 8, 8, 8, 8, 8, 8, 8, 8, 8, 8, 8, 8, 8, 8, 8, 8, 8, 8, 8, 8, 8, 8, 8, 8, 8, 8, 8, 8, 8, 8, 8, 8, 8, 8, 8]⟩)) (.s 21))⟩,
 ⟨none, some 23, .inl (.cvi .i64 (.s 22))⟩,
 ⟨none, some 24, .inl (.bin .add (.s 19) (.s 23))⟩,
 ⟨none, some 2, .inl (.mv (.s 24))⟩])
 (.ret)))))
def k136 : Cd :=
  .seq (.region [⟨none, some 4, .inl (.mv (.c (.int .u32 0)))⟩,
 ⟨none, some 5, .inl (.mv (.c (.int .u32 0)))⟩])
 (.seq (.region [⟨none, some 7, .inl (.mv (.s 0))⟩,
 ⟨none, some 8, .inl (.cvi .u64 (.s 7))⟩,
 ⟨none, some 9, .inl (.mv (.s 1))⟩,
 ⟨none, some 10, .inl (.cvi .u64 (.s 9))⟩,
 ⟨none, some 11, .inl (.bin .mul (.s 8) (.s 10))⟩,
 ⟨none, some 6, .inl (.mv (.s 11))⟩])
 (.seq (.region [⟨none, some 12, .inl (.mv (.s 6))⟩,
 ⟨none, some 13, .inl (.bin .shr (.s 12) (.c (.int .u64 32)))⟩,
 ⟨none, some 14, .inl (.cvi .u32 (.s 13))⟩,
 ⟨none, some 15, .inl (.mv (.s 6))⟩,
 ⟨none, some 16, .inl (.cvi .u32 (.s 15))⟩,
 ⟨none, some 4, .inl (.mv (.s 14))⟩,
 ⟨none, some 5, .inl (.mv (.s 16))⟩])
 (.ret)))
def k137 : Cd :=
  .seq (.region [⟨none, some 4, .inl (.mv (.c (.int .u64 0)))⟩,
 ⟨none, some 5, .inl (.mv (.c (.int .u64 0)))⟩])
 (.seq (.region [⟨none, some 14, .inl (.mv (.s 0))⟩,
 ⟨none, some 15, .inl (.bin .and (.s 14) (.c (.int .u64 4294967295)))⟩,
 ⟨none, some 6, .inl (.mv (.s 15))⟩])
 (.seq (.region [⟨none, some 16, .inl (.mv (.s 0))⟩,
 ⟨none, some 17, .inl (.bin .shr (.s 16) (.c (.int .u64 32)))⟩,
 ⟨none, some 7, .inl (.mv (.s 17))⟩])
 (.seq (.region [⟨none, some 18, .inl (.mv (.s 1))⟩,
 ⟨none, some 19, .inl (.bin .and (.s 18) (.c (.int .u64 4294967295)))⟩,
 ⟨none, some 8, .inl (.mv (.s 19))⟩])
 (.seq (.region [⟨none, some 20, .inl (.mv (.s 1))⟩,
 ⟨none, some 21, .inl (.bin .shr (.s 20) (.c (.int .u64 32)))⟩,
 ⟨none, some 9, .inl (.mv (.s 21))⟩])
 (.seq (.region [⟨none, some 22, .inl (.mv (.s 6))⟩,
 ⟨none, some 23, .inl (.mv (.s 8))⟩,
 ⟨none, some 24, .inl (.bin .mul (.s 22) (.s 23))⟩,
 ⟨none, some 10, .inl (.mv (.s 24))⟩])
 (.seq (.region [⟨none, some 25, .inl (.mv (.s 7))⟩,
 ⟨none, some 26, .inl (.mv (.s 8))⟩,
 ⟨none, some 27, .inl (.bin .mul (.s 25) (.s 26))⟩,
 ⟨none, some 28, .inl (.mv (.s 10))⟩,
 ⟨none, some 29, .inl (.bin .shr (.s 28) (.c (.int .u64 32)))⟩,
 ⟨none, some 30, .inl (.bin .add (.s 27) (.s 29))⟩,
 ⟨none, some 11, .inl (.mv (.s 30))⟩])
 (.seq (.region [⟨none, some 31, .inl (.mv (.s 11))⟩,
 ⟨none, some 32, .inl (.bin .and (.s 31) (.c (.int .u64 4294967295)))⟩,
 ⟨none, some 12, .inl (.mv (.s 32))⟩])
 (.seq (.region [⟨none, some 33, .inl (.mv (.s 11))⟩,
 ⟨none, some 34, .inl (.bin .shr (.s 33) (.c (.int .u64 32)))⟩,
 ⟨none, some 13, .inl (.mv (.s 34))⟩])
 (.seq (.region [⟨none, some 35, .inl (.mv (.s 12))⟩,
 ⟨none, some 36, .inl (.mv (.s 6))⟩,
 ⟨none, some 37, .inl (.mv (.s 9))⟩,
 ⟨none, some 38, .inl (.bin .mul (.s 36) (.s 37))⟩,
 ⟨none, some 39, .inl (.bin .add (.s 35) (.s 38))⟩,
 ⟨none, some 12, .inl (.mv (.s 39))⟩])
 (.seq (.region [⟨none, some 40, .inl (.mv (.s 7))⟩,
 ⟨none, some 41, .inl (.mv (.s 9))⟩,
 ⟨none, some 42, .inl (.bin .mul (.s 40) (.s 41))⟩,
 ⟨none, some 43, .inl (.mv (.s 13))⟩,
 ⟨none, some 44, .inl (.bin .add (.s 42) (.s 43))⟩,
 ⟨none, some 45, .inl (.mv (.s 12))⟩,
 ⟨none, some 46, .inl (.bin .shr (.s 45) (.c (.int .u64 32)))⟩,
 ⟨none, some 47, .inl (.bin .add (.s 44) (.s 46))⟩,
 ⟨none, some 4, .inl (.mv (.s 47))⟩])
 (.seq (.region [⟨none, some 48, .inl (.mv (.s 0))⟩,
 ⟨none, some 49, .inl (.mv (.s 1))⟩,
 ⟨none, some 50, .inl (.bin .mul (.s 48) (.s 49))⟩,
 ⟨none, some 5, .inl (.mv (.s 50))⟩])
 (.ret))))))))))))
def k138l0 : Cd :=
  .block 1 (.seq (.region [⟨none, some 11, .inl (.mv (.s 8))⟩,
 ⟨none, some 12, .inl (.bin .mul (.c (.int .i64 2)) (.s 11))⟩,
 ⟨none, some 13, .inl (.bin .add (.s 12) (.c (.int .i64 1)))⟩,
 ⟨none, some 9, .inl (.mv (.s 13))⟩])
 (.seq (.seq (.region [⟨none, some 14, .inl (.mv (.s 9))⟩,
 ⟨none, some 15, .inl (.mv (.s 2))⟩,
 ⟨none, some 16, .inl (.bin .geq (.s 14) (.s 15))⟩])
 (.cond (.s 16) (.exit 0)
 (.skip)))
 (.seq (.seq (.draw [⟨⟨none, some 17, .inl (.mv (.s 9))⟩, some [], [], 0, false⟩,
 ⟨⟨none, some 18, .inl (.bin .add (.s 17) (.c (.int .i64 1)))⟩, some [], [], 1, false⟩,
 ⟨⟨none, some 19, .inl (.mv (.s 2))⟩, some [], [], 0, false⟩,
 ⟨⟨none, some 20, .inl (.bin .lss (.s 18) (.s 19))⟩, some [], [], 7, false⟩,
 ⟨⟨none, some 21, .inl (.mv (.s 20))⟩, some [], [], 15, false⟩,
 ⟨⟨some (21, true), some 22, .inl (.mv (.s 0))⟩, some [], [], 31, false⟩,
 ⟨⟨some (21, true), some 23, .inl (.mv (.s 3))⟩, some [], [], 31, false⟩,
 ⟨⟨some (21, true), some 24, .inl (.mv (.s 9))⟩, some [], [], 31, false⟩,
 ⟨⟨some (21, true), some 25, .inl (.bin .add (.s 23) (.s 24))⟩, some [], [], 223, false⟩,
 ⟨⟨some (21, true), some 26, .inl (.ias 1 (.s 22) (.s 25))⟩, some [], [], 511, false⟩,
 ⟨⟨some (21, true), some 27, .inl (.ld false 1 (.s 26))⟩, some [], [], 1023, false⟩,
 ⟨⟨some (21, true), some 28, .inl (.mv (.s 0))⟩, some [], [], 31, false⟩,
 ⟨⟨some (21, true), some 29, .inl (.mv (.s 3))⟩, some [], [], 31, false⟩,
 ⟨⟨some (21, true), some 30, .inl (.mv (.s 9))⟩, some [], [], 31, false⟩,
 ⟨⟨some (21, true), some 31, .inl (.bin .add (.s 29) (.s 30))⟩, some [], [], 12319, false⟩,
 ⟨⟨some (21, true), some 32, .inl (.bin .add (.s 31) (.c (.int .i64 1)))⟩, some [], [], 28703, false⟩,
 ⟨⟨some (21, true), some 33, .inl (.ias 1 (.s 28) (.s 32))⟩, some [], [], 63519, false⟩,
 ⟨⟨some (21, true), some 34, .inl (.ld false 1 (.s 33))⟩, some [], [], 129055, false⟩,
 ⟨⟨some (21, true), some 35, .inr (.fn 117 [(.s 27), (.s 34)])⟩, some [], [], 262143, false⟩,
 ⟨⟨none, some 36, .inl (.pick (.s 21) (.s 35) (.c (.bool false)))⟩, some [], [], 524287, false⟩])
 (.cond (.s 36) (.region [⟨none, some 37, .inl (.mv (.s 9))⟩,
 ⟨none, some 38, .inl (.bin .add (.s 37) (.c (.int .i64 1)))⟩,
 ⟨none, some 9, .inl (.mv (.s 38))⟩])
 (.skip)))
 (.seq (.seq (.draw [⟨⟨none, some 39, .inl (.mv (.s 0))⟩, some [], [], 0, false⟩,
 ⟨⟨none, some 40, .inl (.mv (.s 3))⟩, some [], [], 0, false⟩,
 ⟨⟨none, some 41, .inl (.mv (.s 8))⟩, some [], [], 0, false⟩,
 ⟨⟨none, some 42, .inl (.bin .add (.s 40) (.s 41))⟩, some [], [], 6, false⟩,
 ⟨⟨none, some 43, .inl (.ias 1 (.s 39) (.s 42))⟩, some [], [], 15, false⟩,
 ⟨⟨none, some 44, .inl (.ld false 1 (.s 43))⟩, some [], [], 31, false⟩,
 ⟨⟨none, some 45, .inl (.mv (.s 0))⟩, some [], [], 0, false⟩,
 ⟨⟨none, some 46, .inl (.mv (.s 3))⟩, some [], [], 0, false⟩,
 ⟨⟨none, some 47, .inl (.mv (.s 9))⟩, some [], [], 0, false⟩,
 ⟨⟨none, some 48, .inl (.bin .add (.s 46) (.s 47))⟩, some [], [], 384, false⟩,
 ⟨⟨none, some 49, .inl (.ias 1 (.s 45) (.s 48))⟩, some [], [], 960, false⟩,
 ⟨⟨none, some 50, .inl (.ld false 1 (.s 49))⟩, some [], [], 1984, false⟩,
 ⟨⟨none, some 51, .inr (.fn 117 [(.s 44), (.s 50)])⟩, some [], [], 4095, false⟩,
 ⟨⟨none, some 52, .inl (.not (.s 51))⟩, some [], [], 8191, false⟩])
 (.cond (.s 52) (.ret)
 (.skip)))
 (.seq (.draw [⟨⟨none, some 53, .inl (.mv (.s 0))⟩, some [], [], 0, false⟩,
 ⟨⟨none, some 54, .inl (.mv (.s 3))⟩, some [], [], 0, false⟩,
 ⟨⟨none, some 55, .inl (.mv (.s 8))⟩, some [], [], 0, false⟩,
 ⟨⟨none, some 56, .inl (.bin .add (.s 54) (.s 55))⟩, some [], [], 6, false⟩,
 ⟨⟨none, some 57, .inl (.mv (.s 0))⟩, some [], [], 0, false⟩,
 ⟨⟨none, some 58, .inl (.mv (.s 3))⟩, some [], [], 0, false⟩,
 ⟨⟨none, some 59, .inl (.mv (.s 9))⟩, some [], [], 0, false⟩,
 ⟨⟨none, some 60, .inl (.bin .add (.s 58) (.s 59))⟩, some [], [], 96, false⟩,
 ⟨⟨none, some 61, .inl (.mv (.s 0))⟩, some [], [], 0, false⟩,
 ⟨⟨none, some 62, .inl (.mv (.s 3))⟩, some [], [], 0, false⟩,
 ⟨⟨none, some 63, .inl (.mv (.s 9))⟩, some [], [], 0, false⟩,
 ⟨⟨none, some 64, .inl (.bin .add (.s 62) (.s 63))⟩, some [], [], 1536, false⟩,
 ⟨⟨none, some 65, .inl (.ias 1 (.s 61) (.s 64))⟩, some [], [], 3840, false⟩,
 ⟨⟨none, some 66, .inl (.ld false 1 (.s 65))⟩, some [], [], 7936, false⟩,
 ⟨⟨none, some 67, .inl (.mv (.s 0))⟩, some [], [], 0, false⟩,
 ⟨⟨none, some 68, .inl (.mv (.s 3))⟩, some [], [], 0, false⟩,
 ⟨⟨none, some 69, .inl (.mv (.s 8))⟩, some [], [], 0, false⟩,
 ⟨⟨none, some 70, .inl (.bin .add (.s 68) (.s 69))⟩, some [], [], 98304, false⟩,
 ⟨⟨none, some 71, .inl (.ias 1 (.s 67) (.s 70))⟩, some [], [], 245760, false⟩,
 ⟨⟨none, some 72, .inl (.ld false 1 (.s 71))⟩, some [], [], 507904, false⟩,
 ⟨⟨none, some 73, .inl (.ias 1 (.s 53) (.s 56))⟩, some [], [], 1048335, false⟩,
 ⟨⟨none, none, .inl (.st 1 (.s 73) (.s 66))⟩, (some [.at 0]), [], 2096911, false⟩,
 ⟨⟨none, some 74, .inl (.ias 1 (.s 57) (.s 60))⟩, some [], [], 4194303, false⟩,
 ⟨⟨none, none, .inl (.st 1 (.s 74) (.s 72))⟩, (some [.at 0]), [], 8388607, false⟩])
 (.region [⟨none, some 75, .inl (.mv (.s 9))⟩,
 ⟨none, some 8, .inl (.mv (.s 75))⟩]))))))
def k138 : Cd :=
  .seq (.region [⟨none, some 10, .inl (.mv (.s 1))⟩,
 ⟨none, some 8, .inl (.mv (.s 10))⟩])
 (.block 0 (.loop k138l0))
def k139 : Cd :=
  .seq (.region [⟨none, some 2, .inl (.mv (.c (.int .u64 0)))⟩])
 (.seq (.region [⟨none, some 3, .inl (.mv (.s 0))⟩,
 ⟨none, some 4, .inl (.cvi .u64 (.s 3))⟩,
 ⟨none, some 5, .inr (.fn 123 [(.s 4)])⟩,
 ⟨none, some 6, .inl (.bin .shl (.c (.int .u64 1)) (.s 5))⟩,
 ⟨none, some 2, .inl (.mv (.s 6))⟩])
 (.ret))
def k140 : Cd :=
  .seq (.region [⟨none, some 2, .inl (.mv (.c (.int .u64 0)))⟩])
 (.seq (.draw [⟨⟨none, some 3, .inl (.mv (.s 0))⟩, some [], [], 0, false⟩,
 ⟨⟨none, some 4, .inl (.nc (.s 3))⟩, some [], [], 1, false⟩,
 ⟨⟨none, some 5, .inl (.ld false 1 (.s 4))⟩, some [], [], 3, false⟩,
 ⟨⟨none, some 6, .inl (.mv (.s 0))⟩, some [], [], 0, false⟩,
 ⟨⟨none, some 7, .inl (.nc (.s 6))⟩, some [], [], 8, false⟩,
 ⟨⟨none, some 8, .inl (.ld false 1 (.s 7))⟩, some [], [], 24, false⟩,
 ⟨⟨none, some 9, .inl (.bin .shl (.s 8) (.c (.int .u64 13)))⟩, some [], [], 56, false⟩,
 ⟨⟨none, some 10, .inl (.bin .xor (.s 5) (.s 9))⟩, some [], [], 127, false⟩,
 ⟨⟨none, some 11, .inl (.nc (.s 3))⟩, some [], [], 255, false⟩,
 ⟨⟨none, none, .inl (.st 1 (.s 11) (.s 10))⟩, (some [.at 0]), [], 511, false⟩])
 (.seq (.draw [⟨⟨none, some 12, .inl (.mv (.s 0))⟩, some [], [], 0, false⟩,
 ⟨⟨none, some 13, .inl (.nc (.s 12))⟩, some [], [], 1, false⟩,
 ⟨⟨none, some 14, .inl (.ld false 1 (.s 13))⟩, some [], [], 3, false⟩,
 ⟨⟨none, some 15, .inl (.mv (.s 0))⟩, some [], [], 0, false⟩,
 ⟨⟨none, some 16, .inl (.nc (.s 15))⟩, some [], [], 8, false⟩,
 ⟨⟨none, some 17, .inl (.ld false 1 (.s 16))⟩, some [], [], 24, false⟩,
 ⟨⟨none, some 18, .inl (.bin .shr (.s 17) (.c (.int .u64 7)))⟩, some [], [], 56, false⟩,
 ⟨⟨none, some 19, .inl (.bin .xor (.s 14) (.s 18))⟩, some [], [], 127, false⟩,
 ⟨⟨none, some 20, .inl (.nc (.s 12))⟩, some [], [], 255, false⟩,
 ⟨⟨none, none, .inl (.st 1 (.s 20) (.s 19))⟩, (some [.at 0]), [], 511, false⟩])
 (.seq (.draw [⟨⟨none, some 21, .inl (.mv (.s 0))⟩, some [], [], 0, false⟩,
 ⟨⟨none, some 22, .inl (.nc (.s 21))⟩, some [], [], 1, false⟩,
 ⟨⟨none, some 23, .inl (.ld false 1 (.s 22))⟩, some [], [], 3, false⟩,
 ⟨⟨none, some 24, .inl (.mv (.s 0))⟩, some [], [], 0, false⟩,
 ⟨⟨none, some 25, .inl (.nc (.s 24))⟩, some [], [], 8, false⟩,
 ⟨⟨none, some 26, .inl (.ld false 1 (.s 25))⟩, some [], [], 24, false⟩,
 ⟨⟨none, some 27, .inl (.bin .shl (.s 26) (.c (.int .u64 17)))⟩, some [], [], 56, false⟩,
 ⟨⟨none, some 28, .inl (.bin .xor (.s 23) (.s 27))⟩, some [], [], 127, false⟩,
 ⟨⟨none, some 29, .inl (.nc (.s 21))⟩, some [], [], 255, false⟩,
 ⟨⟨none, none, .inl (.st 1 (.s 29) (.s 28))⟩, (some [.at 0]), [], 511, false⟩])
 (.seq (.region [⟨none, some 30, .inl (.mv (.s 0))⟩,
 ⟨none, some 31, .inl (.nc (.s 30))⟩,
 ⟨none, some 32, .inl (.ld false 1 (.s 31))⟩,
 ⟨none, some 2, .inl (.mv (.s 32))⟩])
 (.ret)))))
def k141 : Cd :=
  .seq (.region [⟨none, some 6, .inl (.mv (.c (.int .i64 0)))⟩])
 (.seq (.region [⟨none, some 7, .inl (.mv (.s 0))⟩,
 ⟨none, some 8, .inl (.mv (.s 1))⟩,
 ⟨none, some 9, .inl (.bin .sub (.s 8) (.c (.int .i64 1)))⟩,
 ⟨none, some 10, .inl (.mv (.s 1))⟩,
 ⟨none, some 11, .inl (.mv (.s 1))⟩,
 ⟨none, some 12, .inl (.bin .add (.s 11) (.c (.int .i64 1)))⟩,
 ⟨none, some 13, .inl (.mv (.s 2))⟩,
 ⟨none, some 14, .inr (.fn 142 [(.s 7), (.s 9), (.s 10), (.s 12), (.s 13)])⟩,
 ⟨none, some 6, .inl (.mv (.s 14))⟩])
 (.ret))
def k142 : Cd :=
  .seq (.region [⟨none, some 10, .inl (.mv (.c (.int .i64 0)))⟩])
 (.seq (.region [⟨none, some 12, .inl (.mv (.s 0))⟩,
 ⟨none, some 13, .inl (.mv (.s 1))⟩,
 ⟨none, some 14, .inl (.mv (.s 2))⟩,
 ⟨none, some 15, .inl (.mv (.s 4))⟩,
 ⟨none, some 16, .inr (.fn 143 [(.s 12), (.s 13), (.s 14), (.s 15)])⟩,
 ⟨none, some 11, .inl (.mv (.s 16))⟩,
 ⟨none, some 17, .inl (.ex (.s 11) 0)⟩,
 ⟨none, some 18, .inl (.ex (.s 11) 1)⟩,
 ⟨none, some 1, .inl (.mv (.s 17))⟩,
 ⟨none, some 2, .inl (.mv (.s 18))⟩])
 (.seq (.region [⟨none, some 20, .inl (.mv (.s 0))⟩,
 ⟨none, some 21, .inl (.mv (.s 2))⟩,
 ⟨none, some 22, .inl (.mv (.s 3))⟩,
 ⟨none, some 23, .inl (.mv (.s 4))⟩,
 ⟨none, some 24, .inr (.fn 143 [(.s 20), (.s 21), (.s 22), (.s 23)])⟩,
 ⟨none, some 19, .inl (.mv (.s 24))⟩,
 ⟨none, some 25, .inl (.ex (.s 19) 0)⟩,
 ⟨none, some 26, .inl (.ex (.s 19) 1)⟩,
 ⟨none, some 2, .inl (.mv (.s 25))⟩,
 ⟨none, some 3, .inl (.mv (.s 26))⟩])
 (.seq (.region [⟨none, some 28, .inl (.mv (.s 0))⟩,
 ⟨none, some 29, .inl (.mv (.s 1))⟩,
 ⟨none, some 30, .inl (.mv (.s 2))⟩,
 ⟨none, some 31, .inl (.mv (.s 4))⟩,
 ⟨none, some 32, .inr (.fn 143 [(.s 28), (.s 29), (.s 30), (.s 31)])⟩,
 ⟨none, some 27, .inl (.mv (.s 32))⟩,
 ⟨none, some 33, .inl (.ex (.s 27) 0)⟩,
 ⟨none, some 34, .inl (.ex (.s 27) 1)⟩,
 ⟨none, some 1, .inl (.mv (.s 33))⟩,
 ⟨none, some 2, .inl (.mv (.s 34))⟩])
 (.seq (.region [⟨none, some 35, .inl (.mv (.s 2))⟩,
 ⟨none, some 10, .inl (.mv (.s 35))⟩])
 (.ret)))))
def k143 : Cd :=
  .seq (.region [⟨none, some 8, .inl (.mv (.c (.int .i64 0)))⟩,
 ⟨none, some 9, .inl (.mv (.c (.int .i64 0)))⟩])
 (.seq (.seq (.draw [⟨⟨none, some 10, .inl (.mv (.s 0))⟩, some [], [], 0, false⟩,
 ⟨⟨none, some 11, .inl (.mv (.s 2))⟩, some [], [], 0, false⟩,
 ⟨⟨none, some 12, .inl (.ias 1 (.s 10) (.s 11))⟩, some [], [], 3, false⟩,
 ⟨⟨none, some 13, .inl (.ld false 1 (.s 12))⟩, some [], [], 7, false⟩,
 ⟨⟨none, some 14, .inl (.mv (.s 0))⟩, some [], [], 0, false⟩,
 ⟨⟨none, some 15, .inl (.mv (.s 1))⟩, some [], [], 0, false⟩,
 ⟨⟨none, some 16, .inl (.ias 1 (.s 14) (.s 15))⟩, some [], [], 48, false⟩,
 ⟨⟨none, some 17, .inl (.ld false 1 (.s 16))⟩, some [], [], 112, false⟩,
 ⟨⟨none, some 18, .inr (.fn 117 [(.s 13), (.s 17)])⟩, some [], [], 255, false⟩])
 (.cond (.s 18) (.seq (.region [⟨none, some 19, .inl (.mv (.s 3))⟩,
 ⟨none, some 20, .inl (.nc (.s 19))⟩,
 ⟨none, some 21, .inl (.ld false 1 (.s 20))⟩,
 ⟨none, some 22, .inl (.bin .add (.s 21) (.c (.int .i64 1)))⟩,
 ⟨none, some 23, .inl (.nc (.s 19))⟩,
 ⟨none, none, .inl (.st 1 (.s 23) (.s 22))⟩])
 (.seq (.region [⟨none, some 24, .inl (.mv (.s 2))⟩,
 ⟨none, some 25, .inl (.mv (.s 1))⟩,
 ⟨none, some 8, .inl (.mv (.s 24))⟩,
 ⟨none, some 9, .inl (.mv (.s 25))⟩])
 (.ret)))
 (.skip)))
 (.seq (.region [⟨none, some 26, .inl (.mv (.s 1))⟩,
 ⟨none, some 27, .inl (.mv (.s 2))⟩,
 ⟨none, some 8, .inl (.mv (.s 26))⟩,
 ⟨none, some 9, .inl (.mv (.s 27))⟩])
 (.ret)))
end Go.Proofs.YtppfjkebamegnaaDoor
