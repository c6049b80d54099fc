/- The small code of the functions of this program, as its own reader reads them: part A. -/
import Derived.Test.YtlkpikdfbodhoaaDoorEmR
namespace Go.Proofs.YtlkpikdfbodhoaaDoor
open Go Go.Em
set_option maxRecDepth 100000
@[simp] abbrev vM (d x : Nat) : G := ⟨none, some d, .inl (.mv (.s x))⟩
@[simp] abbrev vL (d n x : Nat) : G := ⟨none, some d, .inl (.ld false n (.s x))⟩
@[simp] abbrev vF (d x o : Nat) : G := ⟨none, some d, .inl (.fa (.s x) o)⟩
@[simp] abbrev vI (d n x i : Nat) : G := ⟨none, some d, .inl (.ias n (.s x) (.s i))⟩
def k9 : Cd :=
  .seq (.region [⟨none, some 2, .inl (.mv (.c (.bool false)))⟩])
 (.seq (.region [vM 8 0,
 ⟨none, some 9, .inr (.fn 40 [(.s 8)])⟩,
 vM 7 9,
 ⟨none, some 10, .inl (.ex (.s 7) 0)⟩,
 ⟨none, some 11, .inl (.ex (.s 7) 1)⟩,
 vM 3 10,
 vM 4 11])
 (.seq (.region [vM 13 0,
 ⟨none, some 14, .inr (.fn 41 [(.s 13)])⟩,
 vM 12 14,
 ⟨none, some 15, .inl (.ex (.s 12) 0)⟩,
 ⟨none, some 16, .inl (.ex (.s 12) 1)⟩,
 vM 5 15,
 vM 6 16])
 (.seq (.region [vM 17 4,
 vM 18 6,
 ⟨none, some 19, .inl (.bin .eql (.s 17) (.s 18))⟩,
 vM 20 19,
 ⟨some (20, true), some 21, .inl (.mv (.s 3))⟩,
 ⟨some (20, true), some 22, .inl (.mv (.s 5))⟩,
 ⟨some (20, true), some 23, .inr (.fn 30 [(.s 21), (.s 22)])⟩,
 ⟨none, some 24, .inl (.pick (.s 20) (.s 23) (.c (.bool false)))⟩,
 vM 25 24,
 ⟨some (25, true), some 26, .inr (.fn 11 [])⟩,
 ⟨none, some 27, .inl (.pick (.s 25) (.s 26) (.c (.bool false)))⟩,
 vM 2 27])
 (.ret))))
def k10l0 : Cd :=
  .seq (.region [⟨none, some 28, .inl (.bin .lss (.s 27) (.s 26))⟩])
 (.seq (.cond (.s 28) (.skip)
 (.exit 0))
 (.seq (.block 1 (.seq (.region [vM 29 27,
 vI 30 2 25 27,
 ⟨none, some 31, .inl (.ld true 2 (.s 30))⟩,
 ⟨none, some 10, .inl (.alloc 61 [(.int .i64 0), (.bool false)])⟩,
 vM 9 29,
 ⟨none, none, .inl (.st 2 (.s 10) (.s 31))⟩])
 (.seq (.seq (.region [vF 32 10 0,
 vL 33 1 32,
 vM 34 0,
 ⟨none, some 35, .inl (.len (.s 34))⟩,
 ⟨none, some 36, .inl (.bin .sub (.s 35) (.c (.int .i64 1)))⟩,
 ⟨none, some 37, .inr (.fn 42 [(.s 33), (.c (.int .i64 0)), (.s 36)])⟩,
 ⟨none, some 38, .inl (.not (.s 37))⟩])
 (.cond (.s 38) (.seq (.region [⟨none, some 4, .inl (.mv (.c (.int .i64 0)))⟩,
 ⟨none, some 5, .inl (.mv (.c (.int .i64 0)))⟩,
 ⟨none, some 6, .inl (.mv (.c (.int .i64 0)))⟩,
 ⟨none, some 7, .inl (.mv (.c (.int .i64 21)))⟩])
 (.ret))
 (.skip)))
 (.seq (.draw [⟨vM 40 0, some [], [], 0, false⟩,
 ⟨vF 41 10 0, some [], [], 0, false⟩,
 ⟨vL 42 1 41, some [], [], 2, false⟩,
 ⟨vI 43 5 40 42, some [], [], 7, false⟩,
 ⟨⟨none, some 44, .inl (.ld true 5 (.s 43))⟩, some [], [], 15, false⟩,
 ⟨vF 45 10 1, some [], [], 0, false⟩,
 ⟨vL 46 1 45, some [], [], 32, false⟩,
 ⟨⟨none, some 47, .inr (.fn 43 [(.s 44), (.s 46)])⟩, some [], [], 127, false⟩,
 ⟨vM 39 47, some [], [], 255, false⟩,
 ⟨⟨none, some 48, .inl (.ex (.s 39) 0)⟩, some [], [], 511, false⟩,
 ⟨⟨none, some 49, .inl (.ex (.s 39) 1)⟩, some [], [], 511, false⟩,
 ⟨⟨none, some 50, .inl (.ex (.s 39) 2)⟩, some [], [], 511, false⟩,
 ⟨vM 11 48, some [], [], 1023, false⟩,
 ⟨vM 12 49, some [], [], 6143, false⟩,
 ⟨vM 13 50, some [], [], 16383, false⟩])
 (.seq (.seq (.region [vM 51 9,
 ⟨none, some 52, .inl (.bin .eql (.s 51) (.c (.int .i64 0)))⟩])
 (.cond (.s 52) (.region [vM 53 11,
 vM 4 53])
 (.seq (.region [vM 54 11,
 vM 55 5,
 ⟨none, some 56, .inl (.bin .neq (.s 54) (.s 55))⟩])
 (.cond (.s 56) (.seq (.region [⟨none, some 4, .inl (.mv (.c (.int .i64 0)))⟩,
 ⟨none, some 5, .inl (.mv (.c (.int .i64 0)))⟩,
 ⟨none, some 6, .inl (.mv (.c (.int .i64 0)))⟩,
 ⟨none, some 7, .inl (.mv (.c (.int .i64 21)))⟩])
 (.ret))
 (.skip)))))
 (.seq (.region [vM 57 12,
 vM 5 57])
 (.region [vM 58 6,
 vM 59 13,
 ⟨none, some 60, .inl (.bin .add (.s 58) (.s 59))⟩,
 vM 6 60])))))))
 (.region [⟨none, some 61, .inl (.bin .add (.s 27) (.c (.int .i64 1)))⟩,
 vM 27 61])))
def k10 : Cd :=
  .seq (.region [⟨none, some 4, .inl (.mv (.c (.int .i64 0)))⟩,
 ⟨none, some 5, .inl (.mv (.c (.int .i64 0)))⟩,
 ⟨none, some 6, .inl (.mv (.c (.int .i64 0)))⟩,
 ⟨none, some 7, .inl (.mv (.c (.int .i64 0)))⟩])
 (.seq (.seq (.region [vM 14 0,
 ⟨none, some 15, .inr (.fn 29 [(.s 14)])⟩,
 vM 8 15])
 (.seq (.region [vM 16 8,
 ⟨none, some 17, .inl (.bin .neq (.s 16) (.c (.int .i64 0)))⟩])
 (.cond (.s 17) (.seq (.region [vM 18 8,
 ⟨none, some 4, .inl (.mv (.c (.int .i64 0)))⟩,
 ⟨none, some 5, .inl (.mv (.c (.int .i64 0)))⟩,
 ⟨none, some 6, .inl (.mv (.c (.int .i64 0)))⟩,
 vM 7 18])
 (.ret))
 (.skip))))
 (.seq (.seq (.region [vM 19 1,
 ⟨none, some 20, .inl (.len (.s 19))⟩,
 ⟨none, some 21, .inl (.bin .gtr (.s 20) (.c (.int .i64 400)))⟩])
 (.cond (.s 21) (.seq (.region [⟨none, some 4, .inl (.mv (.c (.int .i64 0)))⟩,
 ⟨none, some 5, .inl (.mv (.c (.int .i64 0)))⟩,
 ⟨none, some 6, .inl (.mv (.c (.int .i64 0)))⟩,
 ⟨none, some 7, .inl (.mv (.c (.int .i64 2)))⟩])
 (.ret))
 (.skip)))
 (.seq (.seq (.region [vM 22 1,
 ⟨none, some 23, .inl (.len (.s 22))⟩,
 ⟨none, some 24, .inl (.bin .eql (.s 23) (.c (.int .i64 0)))⟩])
 (.cond (.s 24) (.seq (.region [⟨none, some 4, .inl (.mv (.c (.int .i64 0)))⟩,
 ⟨none, some 5, .inl (.mv (.c (.int .i64 0)))⟩,
 ⟨none, some 6, .inl (.mv (.c (.int .i64 0)))⟩,
 ⟨none, some 7, .inl (.mv (.c (.int .i64 21)))⟩])
 (.ret))
 (.skip)))
 (.seq (.seq (.region [vM 25 1,
 ⟨none, some 26, .inl (.len (.s 25))⟩,
 ⟨none, some 27, .inl (.mv (.c (.int .i64 0)))⟩])
 (.block 0 (.loop k10l0)))
 (.seq (.region [vM 62 4,
 vM 63 5,
 vM 64 6,
 vM 4 62,
 vM 5 63,
 vM 6 64,
 ⟨none, some 7, .inl (.mv (.c (.int .i64 0)))⟩])
 (.ret))))))
def k11 : Cd :=
  .seq (.region [⟨none, some 0, .inl (.mv (.c (.bool false)))⟩])
 (.seq (.region [⟨none, some 13, .inr (.fn 44 [])⟩,
 vM 1 13])
 (.seq (.region [vM 15 1,
 ⟨none, some 16, .inr (.fn 15 [(.s 15), (.c (.int .i64 0)), (.c (.int .i64 9))])⟩,
 vM 14 16,
 ⟨none, some 17, .inl (.ex (.s 14) 0)⟩,
 ⟨none, some 18, .inl (.ex (.s 14) 1)⟩,
 ⟨none, some 19, .inl (.ex (.s 14) 2)⟩,
 vM 2 17,
 vM 3 18,
 vM 4 19])
 (.seq (.region [vM 21 1,
 ⟨none, some 22, .inr (.fn 12 [(.s 21), (.c (.int .i64 0)), (.c (.int .i64 9))])⟩,
 vM 20 22,
 ⟨none, some 23, .inl (.ex (.s 20) 0)⟩,
 ⟨none, some 24, .inl (.ex (.s 20) 1)⟩,
 ⟨none, some 25, .inl (.ex (.s 20) 2)⟩,
 vM 5 23,
 vM 6 24,
 vM 7 25])
 (.seq (.region [vM 27 1,
 ⟨none, some 28, .inr (.fn 45 [(.s 27), (.c (.slice none 0 0))])⟩,
 vM 26 28,
 ⟨none, some 29, .inl (.ex (.s 26) 0)⟩,
 ⟨none, some 30, .inl (.ex (.s 26) 1)⟩,
 vM 8 29,
 vM 9 30])
 (.seq (.region [vM 31 1,
 ⟨none, some 32, .inl (.bld [(.int .i64 0), (.int .i64 0), (.int .i64 0), (.int .i64 0), (.int .i64 0)] [(0, 1, (.c (.int .i64 9))), (1, 1, (.c (.int .i64 0))), (2, 1, (.c (.int .i64 (-13)))), (3, 1, (.c (.int .i64 (-13)))), (4, 1, (.c (.int .i64 7)))])⟩,
 ⟨none, some 33, .inl (.bs 42 5 1 [(.int .i64 0), (.int .i64 0), (.int .i64 0), (.int .i64 0), (.int .i64 0)] [(0, (.s 32))])⟩,
 ⟨none, some 34, .inl (.app 42 5 40 (.s 31) (.s 33))⟩,
 vM 10 34])
 (.seq (.region [vM 36 10,
 ⟨none, some 37, .inr (.fn 37 [(.s 36)])⟩,
 vM 35 37,
 ⟨none, some 38, .inl (.ex (.s 35) 0)⟩,
 ⟨none, some 39, .inl (.ex (.s 35) 1)⟩,
 vM 11 38,
 vM 12 39])
 (.seq (.region [vM 40 2,
 ⟨none, some 41, .inl (.bin .eql (.s 40) (.c (.int .i64 14)))⟩,
 vM 42 41,
 ⟨some (42, true), some 43, .inl (.mv (.s 3))⟩,
 ⟨some (42, true), some 44, .inl (.bin .eql (.s 43) (.c (.int .i64 19)))⟩,
 ⟨none, some 45, .inl (.pick (.s 42) (.s 44) (.c (.bool false)))⟩,
 vM 46 45,
 ⟨some (46, true), some 47, .inl (.mv (.s 4))⟩,
 ⟨some (46, true), some 48, .inl (.bin .eql (.s 47) (.c (.int .i64 0)))⟩,
 ⟨none, some 49, .inl (.pick (.s 46) (.s 48) (.c (.bool false)))⟩,
 vM 50 49,
 ⟨some (50, true), some 51, .inl (.mv (.s 5))⟩,
 ⟨some (50, true), some 52, .inl (.bin .eql (.s 51) (.c (.int .i64 19)))⟩,
 ⟨none, some 53, .inl (.pick (.s 50) (.s 52) (.c (.bool false)))⟩,
 vM 54 53,
 ⟨some (54, true), some 55, .inl (.mv (.s 7))⟩,
 ⟨some (54, true), some 56, .inl (.bin .eql (.s 55) (.c (.int .i64 0)))⟩,
 ⟨none, some 57, .inl (.pick (.s 54) (.s 56) (.c (.bool false)))⟩,
 vM 58 57,
 ⟨some (58, true), some 59, .inl (.mv (.s 6))⟩,
 ⟨some (58, true), some 60, .inl (.bld [(.int .i64 0), (.bool false)] [(0, 1, (.c (.int .i64 0)))])⟩,
 ⟨some (58, true), some 61, .inl (.bld [(.int .i64 0), (.bool false)] [(0, 1, (.c (.int .i64 1)))])⟩,
 ⟨some (58, true), some 62, .inl (.bld [(.int .i64 0), (.bool false)] [(0, 1, (.c (.int .i64 2)))])⟩,
 ⟨some (58, true), some 63, .inl (.bst 61 2 3 [(.int .i64 0), (.bool false)] [(0, (.s 60)), (1, (.s 61)), (2, (.s 62))])⟩,
 ⟨some (58, true), some 64, .inr (.fn 18 [(.s 59), (.s 63)])⟩,
 ⟨none, some 65, .inl (.pick (.s 58) (.s 64) (.c (.bool false)))⟩,
 vM 66 65,
 ⟨some (66, true), some 67, .inl (.mv (.s 8))⟩,
 ⟨some (66, true), some 68, .inl (.bld [(.int .i64 0), (.int .i64 0)] [(0, 1, (.c (.int .i64 0)))])⟩,
 ⟨some (66, true), some 69, .inl (.bld [(.int .i64 0), (.int .i64 0)] [(0, 1, (.c (.int .i64 5))), (1, 1, (.c (.int .i64 10)))])⟩,
 ⟨some (66, true), some 70, .inl (.bld [(.int .i64 0), (.int .i64 0)] [(0, 1, (.c (.int .i64 6))), (1, 1, (.c (.int .i64 13)))])⟩,
 ⟨some (66, true), some 71, .inl (.bld [(.int .i64 0), (.int .i64 0)] [(0, 1, (.c (.int .i64 9))), (1, 1, (.c (.int .i64 14)))])⟩,
 ⟨some (66, true), some 72, .inl (.bst 71 2 4 [(.int .i64 0), (.int .i64 0)] [(0, (.s 68)), (1, (.s 69)), (2, (.s 70)), (3, (.s 71))])⟩,
 ⟨some (66, true), some 73, .inr (.fn 46 [(.s 67), (.s 72)])⟩,
 ⟨none, some 74, .inl (.pick (.s 66) (.s 73) (.c (.bool false)))⟩,
 vM 75 74,
 ⟨some (75, true), some 76, .inl (.mv (.s 9))⟩,
 ⟨some (75, true), some 77, .inl (.bin .eql (.s 76) (.c (.int .i64 0)))⟩,
 ⟨none, some 78, .inl (.pick (.s 75) (.s 77) (.c (.bool false)))⟩,
 vM 79 78,
 ⟨some (79, true), some 80, .inl (.mv (.s 11))⟩,
 ⟨some (79, true), some 81, .inl (.bst 3 1 2 [(.int .i64 0)] [(0, (.c (.int .i64 4))), (1, (.c (.int .i64 7)))])⟩,
 ⟨some (79, true), some 82, .inr (.fn 30 [(.s 80), (.s 81)])⟩,
 ⟨none, some 83, .inl (.pick (.s 79) (.s 82) (.c (.bool false)))⟩,
 vM 84 83,
 ⟨some (84, true), some 85, .inl (.mv (.s 12))⟩,
 ⟨some (84, true), some 86, .inl (.bin .eql (.s 85) (.c (.int .i64 0)))⟩,
 ⟨none, some 87, .inl (.pick (.s 84) (.s 86) (.c (.bool false)))⟩,
 vM 88 87,
 ⟨some (88, true), some 89, .inl (.mv (.s 10))⟩,
 ⟨some (88, true), some 90, .inl (.bld [(.int .i64 0), (.bool false)] [(0, 1, (.c (.int .i64 3))), (1, 1, (.c (.bool true)))])⟩,
 ⟨some (88, true), some 91, .inl (.bld [(.int .i64 0), (.bool false)] [(0, 1, (.c (.int .i64 4))), (1, 1, (.c (.bool true)))])⟩,
 ⟨some (88, true), some 92, .inl (.bst 61 2 2 [(.int .i64 0), (.bool false)] [(0, (.s 90)), (1, (.s 91))])⟩,
 ⟨some (88, true), some 93, .inr (.fn 47 [(.s 89), (.s 92)])⟩,
 ⟨some (88, true), some 94, .inl (.bin .eql (.s 93) (.c (.int .i64 0)))⟩,
 ⟨none, some 95, .inl (.pick (.s 88) (.s 94) (.c (.bool false)))⟩,
 vM 0 95])
 (.ret))))))))
def k12 : Cd :=
  .seq (.region [⟨none, some 6, .inl (.mv (.c (.int .i64 0)))⟩,
 ⟨none, some 7, .inl (.mv (.c (.slice none 0 0)))⟩,
 ⟨none, some 8, .inl (.mv (.c (.int .i64 0)))⟩])
 (.seq (.region [vM 12 0,
 vM 13 1,
 vM 14 2,
 ⟨none, some 15, .inr (.fn 48 [(.s 12), (.s 13), (.s 14)])⟩,
 vM 11 15,
 ⟨none, some 16, .inl (.ex (.s 11) 0)⟩,
 ⟨none, some 17, .inl (.ex (.s 11) 1)⟩,
 ⟨none, some 9, .inl (.alloc 76 [(.slice none 0 0), (.slice none 0 0), (.int .i64 0), (.int .i64 0)])⟩,
 ⟨none, none, .inl (.st 4 (.s 9) (.s 16))⟩,
 vM 10 17])
 (.seq (.seq (.region [vM 18 10,
 ⟨none, some 19, .inl (.bin .neq (.s 18) (.c (.int .i64 0)))⟩])
 (.cond (.s 19) (.seq (.region [vM 20 10,
 ⟨none, some 6, .inl (.mv (.c (.int .i64 0)))⟩,
 ⟨none, some 7, .inl (.mv (.c (.slice none 0 0)))⟩,
 vM 8 20])
 (.ret))
 (.skip)))
 (.seq (.seq (.region [vF 21 9 0,
 ⟨none, some 22, .inl (.ld true 2 (.s 21))⟩,
 vF 23 9 2,
 vL 24 1 23,
 vF 25 9 3,
 vL 26 1 25,
 ⟨none, some 27, .inr (.fn 49 [(.s 22), (.s 24), (.s 26)])⟩])
 (.cond (.s 27) (.seq (.region [⟨none, some 6, .inl (.mv (.c (.int .i64 0)))⟩,
 ⟨none, some 7, .inl (.mv (.c (.slice none 0 0)))⟩,
 ⟨none, some 8, .inl (.mv (.c (.int .i64 5)))⟩])
 (.ret))
 (.skip)))
 (.seq (.draw [⟨vF 28 9 0, some [], [], 0, false⟩,
 ⟨vF 29 28 0, some [], [], 1, false⟩,
 ⟨vF 30 29 1, some [], [], 3, false⟩,
 ⟨vL 31 1 30, some [], [.at 0], 7, false⟩,
 ⟨vF 32 9 2, some [], [], 0, false⟩,
 ⟨vL 33 1 32, some [], [.at 0], 16, false⟩,
 ⟨vI 34 1 31 33, some [], [], 63, false⟩,
 ⟨vL 35 1 34, some [], [.at 0], 127, false⟩,
 ⟨vF 36 9 3, some [], [], 0, false⟩,
 ⟨vL 37 1 36, some [], [.at 0], 256, false⟩,
 ⟨vI 38 1 35 37, some [], [], 1023, false⟩,
 ⟨vL 39 1 38, some [], [.at 0], 2047, false⟩,
 ⟨⟨none, some 40, .inl (.ld true 4 (.s 9))⟩, some [], [.at 0], 0, false⟩,
 ⟨vM 41 0, some [], [], 0, false⟩,
 ⟨⟨none, some 42, .inr (.fn 51 [(.s 41), (.f 52)])⟩, (some [.at 0]), [], 8192, false⟩,
 ⟨⟨none, some 43, .inl (.fd false 1 1 (.s 42))⟩, some [], [], 24576, false⟩,
 ⟨⟨none, some 44, .inr (.fn 50 [(.s 40), (.s 43)])⟩, some [], [], 61440, false⟩,
 ⟨vM 6 39, some [], [], 131071, false⟩,
 ⟨vM 7 44, some [], [], 262143, false⟩,
 ⟨⟨none, some 8, .inl (.mv (.c (.int .i64 0)))⟩, some [], [], 524287, false⟩])
 (.ret)))))
def k15 : Cd :=
  .seq (.region [⟨none, some 6, .inl (.mv (.c (.int .i64 0)))⟩,
 ⟨none, some 7, .inl (.mv (.c (.int .i64 0)))⟩,
 ⟨none, some 8, .inl (.mv (.c (.int .i64 0)))⟩])
 (.seq (.region [vM 11 0,
 vM 12 1,
 vM 13 2,
 ⟨none, some 14, .inr (.fn 48 [(.s 11), (.s 12), (.s 13)])⟩,
 vM 10 14,
 ⟨none, some 15, .inl (.ex (.s 10) 0)⟩,
 ⟨none, some 16, .inl (.ex (.s 10) 1)⟩,
 ⟨none, some 9, .inl (.alloc 76 [(.slice none 0 0), (.slice none 0 0), (.int .i64 0), (.int .i64 0)])⟩,
 ⟨none, none, .inl (.st 4 (.s 9) (.s 15))⟩,
 vM 8 16])
 (.seq (.seq (.region [vM 17 8,
 ⟨none, some 18, .inl (.bin .neq (.s 17) (.c (.int .i64 0)))⟩])
 (.cond (.s 18) (.seq (.region [vM 19 8,
 ⟨none, some 6, .inl (.mv (.c (.int .i64 0)))⟩,
 ⟨none, some 7, .inl (.mv (.c (.int .i64 0)))⟩,
 vM 8 19])
 (.ret))
 (.skip)))
 (.seq (.draw [⟨vF 20 9 0, some [], [], 0, false⟩,
 ⟨vF 21 20 0, some [], [], 1, false⟩,
 ⟨vF 22 21 1, some [], [], 3, false⟩,
 ⟨vL 23 1 22, some [], [], 7, false⟩,
 ⟨vF 24 9 3, some [], [], 0, false⟩,
 ⟨vL 25 1 24, some [], [], 16, false⟩,
 ⟨vI 26 1 23 25, some [], [], 63, false⟩,
 ⟨vL 27 1 26, some [], [], 127, false⟩,
 ⟨vF 28 9 2, some [], [], 0, false⟩,
 ⟨vL 29 1 28, some [], [], 256, false⟩,
 ⟨vI 30 1 27 29, some [], [], 1023, false⟩,
 ⟨vL 31 1 30, some [], [], 2047, false⟩,
 ⟨⟨none, some 32, .inl (.neg (.s 31))⟩, some [], [], 4095, false⟩,
 ⟨vF 33 9 0, some [], [], 0, false⟩,
 ⟨vF 34 33 0, some [], [], 8192, false⟩,
 ⟨vF 35 34 1, some [], [], 24576, false⟩,
 ⟨vL 36 1 35, some [], [], 57344, false⟩,
 ⟨vF 37 9 2, some [], [], 0, false⟩,
 ⟨vL 38 1 37, some [], [], 131072, false⟩,
 ⟨vI 39 1 36 38, some [], [], 516096, false⟩,
 ⟨vL 40 1 39, some [], [], 1040384, false⟩,
 ⟨vF 41 9 3, some [], [], 0, false⟩,
 ⟨vL 42 1 41, some [], [], 2097152, false⟩,
 ⟨vI 43 1 40 42, some [], [], 8380416, false⟩,
 ⟨vL 44 1 43, some [], [], 16769024, false⟩,
 ⟨vM 6 32, some [], [], 8191, false⟩,
 ⟨vM 7 44, some [], [], 67108863, false⟩,
 ⟨⟨none, some 8, .inl (.mv (.c (.int .i64 0)))⟩, some [], [], 134217727, false⟩])
 (.ret))))
def k18l0 : Cd :=
  .seq (.region [⟨none, some 14, .inl (.bin .lss (.s 13) (.s 12))⟩])
 (.seq (.cond (.s 14) (.skip)
 (.exit 0))
 (.seq (.block 1 (.seq (.region [vM 15 13,
 vM 5 15])
 (.seq (.draw [⟨vM 16 0, some [], [], 0, false⟩,
 ⟨vM 17 5, some [], [], 0, false⟩,
 ⟨vI 18 2 16 17, some [], [], 3, false⟩,
 ⟨⟨none, some 19, .inl (.ld true 2 (.s 18))⟩, some [], [], 7, false⟩,
 ⟨vM 20 1, some [], [], 0, false⟩,
 ⟨vM 21 5, some [], [], 0, false⟩,
 ⟨vI 22 2 20 21, some [], [], 48, false⟩,
 ⟨⟨none, some 23, .inl (.ld true 2 (.s 22))⟩, some [], [], 112, false⟩,
 ⟨⟨none, some 24, .inl (.eq true (.cells [.int, .bool]) (.s 19) (.s 23))⟩, some [], [], 255, false⟩])
 (.cond (.s 24) (.seq (.region [⟨none, some 4, .inl (.mv (.c (.bool false)))⟩])
 (.ret))
 (.skip)))))
 (.region [⟨none, some 25, .inl (.bin .add (.s 13) (.c (.int .i64 1)))⟩,
 vM 13 25])))
def k18 : Cd :=
  .seq (.region [⟨none, some 4, .inl (.mv (.c (.bool false)))⟩])
 (.seq (.seq (.region [vM 6 0,
 ⟨none, some 7, .inl (.len (.s 6))⟩,
 vM 8 1,
 ⟨none, some 9, .inl (.len (.s 8))⟩,
 ⟨none, some 10, .inl (.bin .neq (.s 7) (.s 9))⟩])
 (.cond (.s 10) (.seq (.region [⟨none, some 4, .inl (.mv (.c (.bool false)))⟩])
 (.ret))
 (.skip)))
 (.seq (.seq (.region [vM 11 0,
 ⟨none, some 12, .inl (.len (.s 11))⟩,
 ⟨none, some 13, .inl (.mv (.c (.int .i64 0)))⟩])
 (.block 0 (.loop k18l0)))
 (.seq (.region [⟨none, some 4, .inl (.mv (.c (.bool true)))⟩])
 (.ret))))
def k23l0 : Cd :=
  .seq (.region [⟨none, some 25, .inl (.bin .lss (.s 24) (.s 23))⟩])
 (.seq (.cond (.s 25) (.skip)
 (.exit 0))
 (.seq (.block 1 (.seq (.region [vM 26 24,
 vM 5 26])
 (.seq (.draw [⟨vF 27 2 1, some [], [], 0, false⟩,
 ⟨vL 28 1 27, some [], [], 1, false⟩,
 ⟨vM 29 5, some [], [], 0, false⟩,
 ⟨vI 30 1 28 29, some [], [], 7, false⟩,
 ⟨vL 31 1 30, some [], [], 15, false⟩,
 ⟨vF 32 3 1, some [], [], 0, false⟩,
 ⟨vL 33 1 32, some [], [], 32, false⟩,
 ⟨vM 34 5, some [], [], 0, false⟩,
 ⟨vI 35 1 33 34, some [], [], 224, false⟩,
 ⟨vL 36 1 35, some [], [], 480, false⟩,
 ⟨⟨none, some 37, .inr (.fn 30 [(.s 31), (.s 36)])⟩, some [], [], 1023, false⟩,
 ⟨⟨none, some 38, .inl (.not (.s 37))⟩, some [], [], 2047, false⟩])
 (.cond (.s 38) (.seq (.region [⟨none, some 4, .inl (.mv (.c (.bool false)))⟩])
 (.ret))
 (.skip)))))
 (.region [⟨none, some 39, .inl (.bin .add (.s 24) (.c (.int .i64 1)))⟩,
 vM 24 39])))
def k23 : Cd :=
  .seq (.region [⟨none, some 2, .inl (.box 40 2 (.s 0))⟩,
 ⟨none, some 3, .inl (.box 40 2 (.s 1))⟩,
 ⟨none, some 4, .inl (.mv (.c (.bool false)))⟩])
 (.seq (.seq (.region [vF 6 2 0,
 vL 7 1 6,
 vF 8 3 0,
 vL 9 1 8,
 ⟨none, some 10, .inr (.fn 30 [(.s 7), (.s 9)])⟩,
 ⟨none, some 11, .inl (.not (.s 10))⟩,
 vM 12 11,
 ⟨some (12, false), some 13, .inl (.fa (.s 2) 1)⟩,
 ⟨some (12, false), some 14, .inl (.ld false 1 (.s 13))⟩,
 ⟨some (12, false), some 15, .inl (.len (.s 14))⟩,
 ⟨some (12, false), some 16, .inl (.fa (.s 3) 1)⟩,
 ⟨some (12, false), some 17, .inl (.ld false 1 (.s 16))⟩,
 ⟨some (12, false), some 18, .inl (.len (.s 17))⟩,
 ⟨some (12, false), some 19, .inl (.bin .neq (.s 15) (.s 18))⟩,
 ⟨none, some 20, .inl (.pick (.s 12) (.c (.bool true)) (.s 19))⟩])
 (.cond (.s 20) (.seq (.region [⟨none, some 4, .inl (.mv (.c (.bool false)))⟩])
 (.ret))
 (.skip)))
 (.seq (.seq (.region [vF 21 2 1,
 vL 22 1 21,
 ⟨none, some 23, .inl (.len (.s 22))⟩,
 ⟨none, some 24, .inl (.mv (.c (.int .i64 0)))⟩])
 (.block 0 (.loop k23l0)))
 (.seq (.region [⟨none, some 4, .inl (.mv (.c (.bool true)))⟩])
 (.ret))))
def k25 : Cd :=
  .seq (.region [⟨none, some 2, .inl (.alloc 40 [(.slice none 0 0), (.slice none 0 0)])⟩,
 ⟨none, some 3, .inl (.mv (.c (.int .i64 0)))⟩])
 (.seq (.seq (.region [vM 7 0,
 ⟨none, some 8, .inr (.fn 29 [(.s 7)])⟩,
 vM 4 8])
 (.seq (.region [vM 9 4,
 ⟨none, some 10, .inl (.bin .neq (.s 9) (.c (.int .i64 0)))⟩])
 (.cond (.s 10) (.seq (.region [⟨none, some 11, .inl (.bld [(.slice none 0 0), (.slice none 0 0)] [])⟩,
 vM 12 4,
 ⟨none, none, .inl (.st 2 (.s 2) (.s 11))⟩,
 vM 3 12])
 (.ret))
 (.skip))))
 (.seq (.region [vM 14 0,
 ⟨none, some 15, .inr (.fn 51 [(.s 14), (.f 52)])⟩,
 ⟨none, some 16, .inr (.fn 70 [(.s 15)])⟩,
 vM 13 16,
 ⟨none, some 17, .inl (.ex (.s 13) 0)⟩,
 ⟨none, some 18, .inl (.ex (.s 13) 1)⟩,
 ⟨none, some 5, .inl (.alloc 74 [(.slice none 0 0), (.slice none 0 0)])⟩,
 ⟨none, none, .inl (.st 2 (.s 5) (.s 17))⟩,
 vM 6 18])
 (.seq (.seq (.region [vM 19 6,
 ⟨none, some 20, .inl (.not (.s 19))⟩])
 (.cond (.s 20) (.seq (.region [⟨none, some 21, .inl (.bld [(.slice none 0 0), (.slice none 0 0)] [])⟩,
 ⟨none, none, .inl (.st 2 (.s 2) (.s 21))⟩,
 ⟨none, some 3, .inl (.mv (.c (.int .i64 25)))⟩])
 (.ret))
 (.skip)))
 (.seq (.region [vF 22 5 0,
 ⟨none, some 23, .inl (.ld true 2 (.s 22))⟩,
 ⟨none, none, .inl (.st 2 (.s 2) (.s 23))⟩,
 ⟨none, some 3, .inl (.mv (.c (.int .i64 0)))⟩])
 (.ret)))))
def k26l0 : Cd :=
  .seq (.region [⟨none, some 11, .inl (.bin .lss (.s 10) (.s 9))⟩])
 (.seq (.cond (.s 11) (.skip)
 (.exit 0))
 (.seq (.block 1 (.seq (.region [vI 12 5 8 10,
 ⟨none, some 13, .inl (.ld true 5 (.s 12))⟩,
 ⟨none, some 4, .inl (.alloc 42 [(.int .i64 0), (.int .i64 0), (.int .i64 0), (.int .i64 0), (.int .i64 0)])⟩,
 ⟨none, none, .inl (.st 5 (.s 4) (.s 13))⟩])
 (.seq (.region [⟨none, some 14, .inl (.ld true 5 (.s 4))⟩,
 ⟨none, some 15, .inr (.fn 28 [(.s 14)])⟩,
 ⟨none, some 16, .inl (.bin .neq (.s 15) (.c (.int .i64 0)))⟩])
 (.cond (.s 16) (.seq (.region [⟨none, some 2, .inl (.mv (.c (.int .i64 20)))⟩])
 (.ret))
 (.skip)))))
 (.region [⟨none, some 17, .inl (.bin .add (.s 10) (.c (.int .i64 1)))⟩,
 vM 10 17])))
def k26 : Cd :=
  .seq (.region [⟨none, some 2, .inl (.mv (.c (.int .i64 0)))⟩])
 (.seq (.seq (.region [vM 5 0,
 ⟨none, some 6, .inl (.len (.s 5))⟩,
 ⟨none, some 7, .inl (.bin .gtr (.s 6) (.c (.int .i64 400)))⟩])
 (.cond (.s 7) (.seq (.region [⟨none, some 2, .inl (.mv (.c (.int .i64 2)))⟩])
 (.ret))
 (.skip)))
 (.seq (.seq (.region [vM 8 0,
 ⟨none, some 9, .inl (.len (.s 8))⟩,
 ⟨none, some 10, .inl (.mv (.c (.int .i64 0)))⟩])
 (.block 0 (.loop k26l0)))
 (.seq (.seq (.region [vM 18 0,
 ⟨none, some 19, .inr (.fn 54 [(.s 18)])⟩,
 ⟨none, some 20, .inl (.len (.s 19))⟩,
 ⟨none, some 21, .inl (.bin .gtr (.s 20) (.c (.int .i64 64)))⟩])
 (.cond (.s 21) (.seq (.region [⟨none, some 2, .inl (.mv (.c (.int .i64 2)))⟩])
 (.ret))
 (.skip)))
 (.seq (.region [⟨none, some 2, .inl (.mv (.c (.int .i64 0)))⟩])
 (.ret)))))
def k27 : Cd :=
  .seq (.region [⟨none, some 1, .inl (.box 42 5 (.s 0))⟩,
 ⟨none, some 2, .inl (.mv (.c (.int .i64 0)))⟩])
 (.seq (.region [vF 5 1 0,
 vL 6 1 5,
 ⟨none, some 7, .inr (.fn 42 [(.s 6), (.c (.int .i64 0)), (.c (.int .i64 2048))])⟩,
 vM 8 7,
 ⟨some (8, true), some 9, .inl (.fa (.s 1) 1)⟩,
 ⟨some (8, true), some 10, .inl (.ld false 1 (.s 9))⟩,
 ⟨some (8, true), some 11, .inr (.fn 42 [(.s 10), (.c (.int .i64 0)), (.c (.int .i64 2048))])⟩,
 ⟨none, some 12, .inl (.pick (.s 8) (.s 11) (.c (.bool false)))⟩,
 vM 13 12,
 ⟨some (13, true), some 14, .inl (.fa (.s 1) 0)⟩,
 ⟨some (13, true), some 15, .inl (.ld false 1 (.s 14))⟩,
 ⟨some (13, true), some 16, .inl (.fa (.s 1) 1)⟩,
 ⟨some (13, true), some 17, .inl (.ld false 1 (.s 16))⟩,
 ⟨some (13, true), some 18, .inl (.bin .neq (.s 15) (.s 17))⟩,
 ⟨none, some 19, .inl (.pick (.s 13) (.s 18) (.c (.bool false)))⟩,
 vM 3 19])
 (.seq (.region [vF 20 1 2,
 vL 21 1 20,
 vF 22 1 3,
 vL 23 1 22,
 ⟨none, some 24, .inr (.fn 42 [(.s 21), (.c (.int .i64 (-100000))), (.s 23)])⟩,
 vM 25 24,
 ⟨some (25, true), some 26, .inl (.fa (.s 1) 3)⟩,
 ⟨some (25, true), some 27, .inl (.ld false 1 (.s 26))⟩,
 ⟨some (25, true), some 28, .inl (.bin .leq (.s 27) (.c (.int .i64 100000)))⟩,
 ⟨none, some 29, .inl (.pick (.s 25) (.s 28) (.c (.bool false)))⟩,
 vM 4 29])
 (.seq (.seq (.region [vM 30 3,
 ⟨none, some 31, .inl (.not (.s 30))⟩,
 vM 32 31,
 ⟨some (32, false), some 33, .inl (.mv (.s 4))⟩,
 ⟨some (32, false), some 34, .inl (.not (.s 33))⟩,
 ⟨none, some 35, .inl (.pick (.s 32) (.c (.bool true)) (.s 34))⟩,
 vM 36 35,
 ⟨some (36, false), some 37, .inl (.fa (.s 1) 4)⟩,
 ⟨some (36, false), some 38, .inl (.ld false 1 (.s 37))⟩,
 ⟨some (36, false), some 39, .inr (.fn 42 [(.s 38), (.c (.int .i64 1)), (.c (.int .i64 99999))])⟩,
 ⟨some (36, false), some 40, .inl (.not (.s 39))⟩,
 ⟨none, some 41, .inl (.pick (.s 36) (.c (.bool true)) (.s 40))⟩])
 (.cond (.s 41) (.seq (.region [⟨none, some 2, .inl (.mv (.c (.int .i64 20)))⟩])
 (.ret))
 (.skip)))
 (.seq (.region [⟨none, some 2, .inl (.mv (.c (.int .i64 0)))⟩])
 (.ret)))))
def k28 : Cd :=
  .seq (.region [⟨none, some 1, .inl (.box 42 5 (.s 0))⟩,
 ⟨none, some 2, .inl (.mv (.c (.int .i64 0)))⟩])
 (.seq (.seq (.region [vF 3 1 0,
 vL 4 1 3,
 ⟨none, some 5, .inr (.fn 67 [(.s 4), (.c (.int .i64 0)), (.c (.int .i64 2048))])⟩,
 ⟨none, some 6, .inl (.not (.s 5))⟩,
 vM 7 6,
 ⟨some (7, false), some 8, .inl (.fa (.s 1) 1)⟩,
 ⟨some (7, false), some 9, .inl (.ld false 1 (.s 8))⟩,
 ⟨some (7, false), some 10, .inr (.fn 67 [(.s 9), (.c (.int .i64 0)), (.c (.int .i64 2048))])⟩,
 ⟨some (7, false), some 11, .inl (.not (.s 10))⟩,
 ⟨none, some 12, .inl (.pick (.s 7) (.c (.bool true)) (.s 11))⟩,
 vM 13 12,
 ⟨some (13, false), some 14, .inl (.fa (.s 1) 0)⟩,
 ⟨some (13, false), some 15, .inl (.ld false 1 (.s 14))⟩,
 ⟨some (13, false), some 16, .inl (.fa (.s 1) 1)⟩,
 ⟨some (13, false), some 17, .inl (.ld false 1 (.s 16))⟩,
 ⟨some (13, false), some 18, .inl (.bin .eql (.s 15) (.s 17))⟩,
 ⟨none, some 19, .inl (.pick (.s 13) (.c (.bool true)) (.s 18))⟩,
 vM 20 19,
 ⟨some (20, false), some 21, .inl (.fa (.s 1) 2)⟩,
 ⟨some (20, false), some 22, .inl (.ld false 1 (.s 21))⟩,
 ⟨some (20, false), some 23, .inr (.fn 67 [(.s 22), (.c (.int .i64 (-100000))), (.c (.int .i64 100000))])⟩,
 ⟨some (20, false), some 24, .inl (.not (.s 23))⟩,
 ⟨none, some 25, .inl (.pick (.s 20) (.c (.bool true)) (.s 24))⟩,
 vM 26 25,
 ⟨some (26, false), some 27, .inl (.fa (.s 1) 3)⟩,
 ⟨some (26, false), some 28, .inl (.ld false 1 (.s 27))⟩,
 ⟨some (26, false), some 29, .inl (.fa (.s 1) 2)⟩,
 ⟨some (26, false), some 30, .inl (.ld false 1 (.s 29))⟩,
 ⟨some (26, false), some 31, .inr (.fn 67 [(.s 28), (.s 30), (.c (.int .i64 100000))])⟩,
 ⟨some (26, false), some 32, .inl (.not (.s 31))⟩,
 ⟨none, some 33, .inl (.pick (.s 26) (.c (.bool true)) (.s 32))⟩,
 vM 34 33,
 ⟨some (34, false), some 35, .inl (.fa (.s 1) 4)⟩,
 ⟨some (34, false), some 36, .inl (.ld false 1 (.s 35))⟩,
 ⟨some (34, false), some 37, .inr (.fn 67 [(.s 36), (.c (.int .i64 1)), (.c (.int .i64 99999))])⟩,
 ⟨some (34, false), some 38, .inl (.not (.s 37))⟩,
 ⟨none, some 39, .inl (.pick (.s 34) (.c (.bool true)) (.s 38))⟩])
 (.cond (.s 39) (.seq (.region [⟨none, some 2, .inl (.mv (.c (.int .i64 20)))⟩])
 (.ret))
 (.skip)))
 (.seq (.region [⟨none, some 2, .inl (.mv (.c (.int .i64 0)))⟩])
 (.ret)))
def k29l0 : Cd :=
  .seq (.region [⟨none, some 12, .inl (.bin .lss (.s 11) (.s 10))⟩])
 (.seq (.cond (.s 12) (.skip)
 (.exit 0))
 (.seq (.block 1 (.seq (.region [vI 13 5 9 11,
 ⟨none, some 14, .inl (.ld true 5 (.s 13))⟩,
 ⟨none, some 4, .inl (.alloc 42 [(.int .i64 0), (.int .i64 0), (.int .i64 0), (.int .i64 0), (.int .i64 0)])⟩,
 ⟨none, none, .inl (.st 5 (.s 4) (.s 14))⟩])
 (.seq (.region [⟨none, some 15, .inl (.ld true 5 (.s 4))⟩,
 ⟨none, some 16, .inr (.fn 27 [(.s 15)])⟩,
 vM 5 16])
 (.seq (.region [vM 17 5,
 ⟨none, some 18, .inl (.bin .neq (.s 17) (.c (.int .i64 0)))⟩])
 (.cond (.s 18) (.seq (.region [vM 19 5,
 vM 2 19])
 (.ret))
 (.skip))))))
 (.region [⟨none, some 20, .inl (.bin .add (.s 11) (.c (.int .i64 1)))⟩,
 vM 11 20])))
def k29 : Cd :=
  .seq (.region [⟨none, some 2, .inl (.mv (.c (.int .i64 0)))⟩])
 (.seq (.seq (.region [vM 6 0,
 ⟨none, some 7, .inl (.len (.s 6))⟩,
 ⟨none, some 8, .inl (.bin .gtr (.s 7) (.c (.int .i64 400)))⟩])
 (.cond (.s 8) (.seq (.region [⟨none, some 2, .inl (.mv (.c (.int .i64 2)))⟩])
 (.ret))
 (.skip)))
 (.seq (.seq (.region [vM 9 0,
 ⟨none, some 10, .inl (.len (.s 9))⟩,
 ⟨none, some 11, .inl (.mv (.c (.int .i64 0)))⟩])
 (.block 0 (.loop k29l0)))
 (.seq (.seq (.region [vM 21 0,
 ⟨none, some 22, .inr (.fn 71 [(.s 21)])⟩,
 ⟨none, some 23, .inl (.len (.s 22))⟩,
 ⟨none, some 24, .inl (.bin .gtr (.s 23) (.c (.int .i64 64)))⟩])
 (.cond (.s 24) (.seq (.region [⟨none, some 2, .inl (.mv (.c (.int .i64 2)))⟩])
 (.ret))
 (.skip)))
 (.seq (.region [⟨none, some 2, .inl (.mv (.c (.int .i64 0)))⟩])
 (.ret)))))
def k30l0 : Cd :=
  .seq (.region [⟨none, some 14, .inl (.bin .lss (.s 13) (.s 12))⟩])
 (.seq (.cond (.s 14) (.skip)
 (.exit 0))
 (.seq (.block 1 (.seq (.region [vM 15 13,
 vM 5 15])
 (.seq (.draw [⟨vM 16 0, some [], [], 0, false⟩,
 ⟨vM 17 5, some [], [], 0, false⟩,
 ⟨vI 18 1 16 17, some [], [], 3, false⟩,
 ⟨vL 19 1 18, some [], [], 7, false⟩,
 ⟨vM 20 1, some [], [], 0, false⟩,
 ⟨vM 21 5, some [], [], 0, false⟩,
 ⟨vI 22 1 20 21, some [], [], 48, false⟩,
 ⟨vL 23 1 22, some [], [], 112, false⟩,
 ⟨⟨none, some 24, .inl (.bin .neq (.s 19) (.s 23))⟩, some [], [], 255, false⟩])
 (.cond (.s 24) (.seq (.region [⟨none, some 4, .inl (.mv (.c (.bool false)))⟩])
 (.ret))
 (.skip)))))
 (.region [⟨none, some 25, .inl (.bin .add (.s 13) (.c (.int .i64 1)))⟩,
 vM 13 25])))
def k30 : Cd :=
  .seq (.region [⟨none, some 4, .inl (.mv (.c (.bool false)))⟩])
 (.seq (.seq (.region [vM 6 0,
 ⟨none, some 7, .inl (.len (.s 6))⟩,
 vM 8 1,
 ⟨none, some 9, .inl (.len (.s 8))⟩,
 ⟨none, some 10, .inl (.bin .neq (.s 7) (.s 9))⟩])
 (.cond (.s 10) (.seq (.region [⟨none, some 4, .inl (.mv (.c (.bool false)))⟩])
 (.ret))
 (.skip)))
 (.seq (.seq (.region [vM 11 0,
 ⟨none, some 12, .inl (.len (.s 11))⟩,
 ⟨none, some 13, .inl (.mv (.c (.int .i64 0)))⟩])
 (.block 0 (.loop k30l0)))
 (.seq (.region [⟨none, some 4, .inl (.mv (.c (.bool true)))⟩])
 (.ret))))
def k32l0 : Cd :=
  .seq (.region [⟨none, some 15, .inl (.bin .lss (.s 14) (.s 13))⟩])
 (.seq (.cond (.s 15) (.skip)
 (.exit 0))
 (.seq (.block 1 (.seq (.region [vI 16 5 12 14,
 ⟨none, some 17, .inl (.ld true 5 (.s 16))⟩,
 ⟨none, some 5, .inl (.alloc 42 [(.int .i64 0), (.int .i64 0), (.int .i64 0), (.int .i64 0), (.int .i64 0)])⟩,
 ⟨none, none, .inl (.st 5 (.s 5) (.s 17))⟩])
 (.region [vM 18 3,
 vF 19 5 4,
 vL 20 1 19,
 ⟨none, some 21, .inl (.bs 3 1 1 [(.int .i64 0)] [(0, (.s 20))])⟩,
 ⟨none, some 22, .inl (.app 3 1 8 (.s 18) (.s 21))⟩,
 vM 3 22])))
 (.region [⟨none, some 23, .inl (.bin .add (.s 14) (.c (.int .i64 1)))⟩,
 vM 14 23])))
def k32 : Cd :=
  .seq (.region [⟨none, some 2, .inl (.mv (.c (.slice none 0 0)))⟩])
 (.seq (.seq (.region [vM 6 0,
 ⟨none, some 7, .inr (.fn 29 [(.s 6)])⟩,
 ⟨none, some 8, .inl (.bin .neq (.s 7) (.c (.int .i64 0)))⟩])
 (.cond (.s 8) (.seq (.region [⟨none, some 2, .inl (.mv (.c (.slice none 0 0)))⟩])
 (.ret))
 (.skip)))
 (.seq (.region [vM 9 0,
 ⟨none, some 10, .inl (.len (.s 9))⟩,
 ⟨none, some 11, .inl (.mks 3 1 8 [(.int .i64 0)] (.c (.int .i64 0)) (.s 10))⟩,
 vM 3 11])
 (.seq (.seq (.region [vM 12 0,
 ⟨none, some 13, .inl (.len (.s 12))⟩,
 ⟨none, some 14, .inl (.mv (.c (.int .i64 0)))⟩])
 (.block 0 (.loop k32l0)))
 (.seq (.region [vM 24 3,
 ⟨none, some 25, .inr (.fn 72 [(.s 24)])⟩,
 vM 2 25])
 (.ret)))))
def k37l0 : Cd :=
  .region [vM 8 26]
def k37l1 : Cd :=
  .block 1 (.seq (.region [⟨none, some 27, .inl (.ld true 2 (.s 6))⟩,
 vM 28 8,
 ⟨none, some 29, .inr (.fn 78 [(.s 27), (.s 28)])⟩])
 (.cond (.s 29) (.region [vF 30 6 1,
 vL 31 1 30,
 vM 32 8,
 ⟨none, none, .inl (.upd .int (.s 31) (.s 32) (.c (.bool false)))⟩])
 (.skip)))
def k37 : Cd :=
  .seq (.region [⟨none, some 2, .inl (.mv (.c (.slice none 0 0)))⟩,
 ⟨none, some 3, .inl (.mv (.c (.int .i64 0)))⟩])
 (.seq (.seq (.region [vM 9 0,
 ⟨none, some 10, .inr (.fn 29 [(.s 9)])⟩,
 vM 4 10])
 (.seq (.region [vM 11 4,
 ⟨none, some 12, .inl (.bin .neq (.s 11) (.c (.int .i64 0)))⟩])
 (.cond (.s 12) (.seq (.region [vM 13 4,
 ⟨none, some 2, .inl (.mv (.c (.slice none 0 0)))⟩,
 vM 3 13])
 (.ret))
 (.skip))))
 (.seq (.region [vM 14 0,
 ⟨none, some 15, .inr (.fn 32 [(.s 14)])⟩,
 vM 5 15])
 (.seq (.region [vM 16 0,
 vM 17 5,
 ⟨none, some 18, .inr (.fn 75 [(.s 17)])⟩,
 ⟨none, some 19, .inl (.bld [(.slice none 0 0), (.map none)] [(0, 1, (.s 16)), (1, 1, (.s 18))])⟩,
 ⟨none, some 6, .inl (.alloc 105 [(.slice none 0 0), (.map none)])⟩,
 ⟨none, none, .inl (.st 2 (.s 6) (.s 19))⟩])
 (.seq (.seq (.region [⟨none, some 20, .inl (.ld true 2 (.s 6))⟩,
 ⟨none, some 21, .inr (.fn 76 [(.s 20)])⟩,
 ⟨none, some 22, .inl (.not (.s 21))⟩])
 (.cond (.s 22) (.seq (.region [⟨none, some 2, .inl (.mv (.c (.slice none 0 0)))⟩,
 ⟨none, some 3, .inl (.mv (.c (.int .i64 4)))⟩])
 (.ret))
 (.skip)))
 (.seq (.seq (.region [vM 23 5,
 ⟨none, some 24, .inr (.fn 77 [(.s 23)])⟩])
 (.block 0 (.rangeF (.s 24) [25, 26] k37l0 k37l1)))
 (.seq (.region [vM 33 5,
 ⟨none, some 34, .inl (.mkf (.func 80) [] [(.s 6)])⟩,
 ⟨none, some 35, .inr (.fn 79 [(.s 33), (.s 34)])⟩,
 vM 2 35,
 ⟨none, some 3, .inl (.mv (.c (.int .i64 0)))⟩])
 (.ret)))))))
def k40l0 : Cd :=
  .seq (.region [⟨none, some 21, .inl (.bin .lss (.s 20) (.s 19))⟩])
 (.seq (.cond (.s 21) (.skip)
 (.exit 0))
 (.seq (.block 1 (.seq (.region [vM 22 20,
 ⟨none, some 7, .inl (.alloc 3 [(.int .i64 0)])⟩,
 ⟨none, none, .inl (.st 1 (.s 7) (.s 22))⟩])
 (.seq (.region [vM 24 0,
 ⟨none, some 25, .inl (.mkf (.func 85) [] [(.s 7)])⟩,
 ⟨none, some 26, .inr (.fn 51 [(.s 24), (.s 25)])⟩,
 ⟨none, some 27, .inr (.fn 70 [(.s 26)])⟩,
 vM 23 27,
 ⟨none, some 28, .inl (.ex (.s 23) 0)⟩,
 ⟨none, some 29, .inl (.ex (.s 23) 1)⟩,
 ⟨none, some 8, .inl (.alloc 74 [(.slice none 0 0), (.slice none 0 0)])⟩,
 ⟨none, none, .inl (.st 2 (.s 8) (.s 28))⟩,
 vM 9 29])
 (.seq (.region [vF 30 8 0,
 ⟨none, some 31, .inl (.ld true 2 (.s 30))⟩,
 ⟨none, some 32, .inl (.ld true 2 (.s 4))⟩,
 ⟨none, some 33, .inr (.fn 86 [(.s 31), (.s 32)])⟩])
 (.cond (.s 33) (.region [vM 34 6,
 vL 35 1 7,
 ⟨none, some 36, .inl (.bs 3 1 1 [(.int .i64 0)] [(0, (.s 35))])⟩,
 ⟨none, some 37, .inl (.app 3 1 8 (.s 34) (.s 36))⟩,
 vM 6 37])
 (.skip))))))
 (.region [⟨none, some 38, .inl (.bin .add (.s 20) (.c (.int .i64 1)))⟩,
 vM 20 38])))
def k40 : Cd :=
  .seq (.region [⟨none, some 2, .inl (.mv (.c (.slice none 0 0)))⟩,
 ⟨none, some 3, .inl (.mv (.c (.int .i64 0)))⟩])
 (.seq (.region [vM 11 0,
 ⟨none, some 12, .inr (.fn 25 [(.s 11)])⟩,
 vM 10 12,
 ⟨none, some 13, .inl (.ex (.s 10) 0)⟩,
 ⟨none, some 14, .inl (.ex (.s 10) 1)⟩,
 ⟨none, some 4, .inl (.alloc 40 [(.slice none 0 0), (.slice none 0 0)])⟩,
 ⟨none, none, .inl (.st 2 (.s 4) (.s 13))⟩,
 vM 5 14])
 (.seq (.seq (.region [vM 15 5,
 ⟨none, some 16, .inl (.bin .neq (.s 15) (.c (.int .i64 0)))⟩])
 (.cond (.s 16) (.seq (.region [vM 17 5,
 ⟨none, some 2, .inl (.mv (.c (.slice none 0 0)))⟩,
 vM 3 17])
 (.ret))
 (.skip)))
 (.seq (.region [⟨none, some 6, .inl (.mv (.c (.slice none 0 0)))⟩])
 (.seq (.seq (.region [vM 18 0,
 ⟨none, some 19, .inl (.len (.s 18))⟩,
 ⟨none, some 20, .inl (.mv (.c (.int .i64 0)))⟩])
 (.block 0 (.loop k40l0)))
 (.seq (.region [vM 39 6,
 vM 2 39,
 ⟨none, some 3, .inl (.mv (.c (.int .i64 0)))⟩])
 (.ret))))))
def k41l0 : Cd :=
  .seq (.region [⟨none, some 21, .inl (.bin .lss (.s 20) (.s 19))⟩])
 (.seq (.cond (.s 21) (.skip)
 (.exit 0))
 (.seq (.block 1 (.seq (.region [vM 22 20,
 vM 7 22])
 (.seq (.draw [⟨⟨none, some 24, .inl (.bs 42 5 0 [(.int .i64 0), (.int .i64 0), (.int .i64 0), (.int .i64 0), (.int .i64 0)] [])⟩, (some [.fr 24]), [.fr 8], 0, false⟩,
 ⟨vM 25 0, some [], [], 0, false⟩,
 ⟨vM 26 7, some [], [], 0, false⟩,
 ⟨⟨none, some 27, .inl (.slc 5 (.s 25) none (some (.s 26)) none)⟩, some [], [.fr 24, .fr 8], 6, false⟩,
 ⟨⟨none, some 28, .inl (.app 42 5 40 (.s 24) (.s 27))⟩, (some [.fr 28, .fr 24]), [.fr 8], 15, false⟩,
 ⟨vM 29 0, some [], [], 0, false⟩,
 ⟨vM 30 7, some [], [], 0, false⟩,
 ⟨⟨none, some 31, .inl (.bin .add (.s 30) (.c (.int .i64 1)))⟩, some [], [], 64, false⟩,
 ⟨⟨none, some 32, .inl (.slc 5 (.s 29) (some (.s 31)) none none)⟩, some [], [.fr 24, .fr 28, .fr 8], 224, false⟩,
 ⟨⟨none, some 33, .inl (.app 42 5 40 (.s 28) (.s 32))⟩, (some [.fr 33, .fr 28, .fr 24]), [.fr 8], 511, false⟩,
 ⟨⟨none, some 34, .inr (.fn 53 [(.s 33)])⟩, (some [.fr 33, .fr 28, .fr 24]), [.fr 8], 1023, false⟩,
 ⟨vM 23 34, some [], [], 2047, false⟩,
 ⟨⟨none, some 35, .inl (.ex (.s 23) 0)⟩, some [], [], 4095, false⟩,
 ⟨⟨none, some 36, .inl (.ex (.s 23) 1)⟩, some [], [], 4095, false⟩,
 ⟨⟨none, some 8, .inl (.alloc 40 [(.slice none 0 0), (.slice none 0 0)])⟩, (some [.fr 8]), [.fr 24, .fr 28, .fr 33], 0, false⟩,
 ⟨⟨none, none, .inl (.st 2 (.s 8) (.s 35))⟩, (some [.fr 8]), [], 24575, false⟩,
 ⟨vM 9 36, some [], [], 65535, false⟩])
 (.seq (.region [⟨none, some 37, .inl (.ld true 2 (.s 4))⟩,
 ⟨none, some 38, .inl (.ld true 2 (.s 8))⟩,
 ⟨none, some 39, .inr (.fn 23 [(.s 37), (.s 38)])⟩])
 (.cond (.s 39) (.region [vM 40 6,
 vM 41 7,
 ⟨none, some 42, .inl (.bs 3 1 1 [(.int .i64 0)] [(0, (.s 41))])⟩,
 ⟨none, some 43, .inl (.app 3 1 8 (.s 40) (.s 42))⟩,
 vM 6 43])
 (.skip))))))
 (.region [⟨none, some 44, .inl (.bin .add (.s 20) (.c (.int .i64 1)))⟩,
 vM 20 44])))
def k41 : Cd :=
  .seq (.region [⟨none, some 2, .inl (.mv (.c (.slice none 0 0)))⟩,
 ⟨none, some 3, .inl (.mv (.c (.int .i64 0)))⟩])
 (.seq (.region [vM 11 0,
 ⟨none, some 12, .inr (.fn 87 [(.s 11)])⟩,
 vM 10 12,
 ⟨none, some 13, .inl (.ex (.s 10) 0)⟩,
 ⟨none, some 14, .inl (.ex (.s 10) 1)⟩,
 ⟨none, some 4, .inl (.alloc 40 [(.slice none 0 0), (.slice none 0 0)])⟩,
 ⟨none, none, .inl (.st 2 (.s 4) (.s 13))⟩,
 vM 5 14])
 (.seq (.seq (.region [vM 15 5,
 ⟨none, some 16, .inl (.bin .neq (.s 15) (.c (.int .i64 0)))⟩])
 (.cond (.s 16) (.seq (.region [vM 17 5,
 ⟨none, some 2, .inl (.mv (.c (.slice none 0 0)))⟩,
 vM 3 17])
 (.ret))
 (.skip)))
 (.seq (.region [⟨none, some 6, .inl (.mv (.c (.slice none 0 0)))⟩])
 (.seq (.seq (.region [vM 18 0,
 ⟨none, some 19, .inl (.len (.s 18))⟩,
 ⟨none, some 20, .inl (.mv (.c (.int .i64 0)))⟩])
 (.block 0 (.loop k41l0)))
 (.seq (.region [vM 45 6,
 vM 2 45,
 ⟨none, some 3, .inl (.mv (.c (.int .i64 0)))⟩])
 (.ret))))))
def k42 : Cd :=
  .seq (.region [⟨none, some 6, .inl (.mv (.c (.bool false)))⟩])
 (.seq (.region [vM 7 1,
 vM 8 0,
 ⟨none, some 9, .inl (.bin .leq (.s 7) (.s 8))⟩,
 vM 10 9,
 ⟨some (10, true), some 11, .inl (.mv (.s 0))⟩,
 ⟨some (10, true), some 12, .inl (.mv (.s 2))⟩,
 ⟨some (10, true), some 13, .inl (.bin .leq (.s 11) (.s 12))⟩,
 ⟨none, some 14, .inl (.pick (.s 10) (.s 13) (.c (.bool false)))⟩,
 vM 6 14])
 (.ret))
def k43 : Cd :=
  .seq (.region [⟨none, some 2, .inl (.box 42 5 (.s 0))⟩,
 ⟨none, some 4, .inl (.mv (.c (.int .i64 0)))⟩,
 ⟨none, some 5, .inl (.mv (.c (.int .i64 0)))⟩,
 ⟨none, some 6, .inl (.mv (.c (.int .i64 0)))⟩])
 (.seq (.seq (.region [vM 7 1])
 (.cond (.s 7) (.seq (.draw [⟨vF 8 2 1, some [], [], 0, false⟩,
 ⟨vL 9 1 8, some [], [], 1, false⟩,
 ⟨vF 10 2 0, some [], [], 0, false⟩,
 ⟨vL 11 1 10, some [], [], 4, false⟩,
 ⟨vF 12 2 2, some [], [], 0, false⟩,
 ⟨vL 13 1 12, some [], [], 16, false⟩,
 ⟨⟨none, some 14, .inl (.neg (.s 13))⟩, some [], [], 48, false⟩,
 ⟨vM 4 9, some [], [], 3, false⟩,
 ⟨vM 5 11, some [], [], 143, false⟩,
 ⟨vM 6 14, some [], [], 511, false⟩])
 (.ret))
 (.skip)))
 (.seq (.draw [⟨vF 15 2 0, some [], [], 0, false⟩,
 ⟨vL 16 1 15, some [], [], 1, false⟩,
 ⟨vF 17 2 1, some [], [], 0, false⟩,
 ⟨vL 18 1 17, some [], [], 4, false⟩,
 ⟨vF 19 2 3, some [], [], 0, false⟩,
 ⟨vL 20 1 19, some [], [], 16, false⟩,
 ⟨vM 4 16, some [], [], 3, false⟩,
 ⟨vM 5 18, some [], [], 79, false⟩,
 ⟨vM 6 20, some [], [], 255, false⟩])
 (.ret)))
def k44 : Cd :=
  .seq (.region [⟨none, some 0, .inl (.mv (.c (.slice none 0 0)))⟩])
 (.seq (.region [⟨none, some 1, .inl (.bld [(.int .i64 0), (.int .i64 0), (.int .i64 0), (.int .i64 0), (.int .i64 0)] [(0, 1, (.c (.int .i64 0))), (1, 1, (.c (.int .i64 5))), (2, 1, (.c (.int .i64 10))), (3, 1, (.c (.int .i64 12))), (4, 1, (.c (.int .i64 1)))])⟩,
 ⟨none, some 2, .inl (.bld [(.int .i64 0), (.int .i64 0), (.int .i64 0), (.int .i64 0), (.int .i64 0)] [(0, 1, (.c (.int .i64 5))), (1, 1, (.c (.int .i64 6))), (2, 1, (.c (.int .i64 3))), (3, 1, (.c (.int .i64 3))), (4, 1, (.c (.int .i64 2)))])⟩,
 ⟨none, some 3, .inl (.bld [(.int .i64 0), (.int .i64 0), (.int .i64 0), (.int .i64 0), (.int .i64 0)] [(0, 1, (.c (.int .i64 6))), (1, 1, (.c (.int .i64 9))), (2, 1, (.c (.int .i64 (-2)))), (3, 1, (.c (.int .i64 4))), (4, 1, (.c (.int .i64 3)))])⟩,
 ⟨none, some 4, .inl (.bld [(.int .i64 0), (.int .i64 0), (.int .i64 0), (.int .i64 0), (.int .i64 0)] [(0, 1, (.c (.int .i64 0))), (1, 1, (.c (.int .i64 9))), (2, 1, (.c (.int .i64 14))), (3, 1, (.c (.int .i64 20))), (4, 1, (.c (.int .i64 4)))])⟩,
 ⟨none, some 5, .inl (.bs 42 5 4 [(.int .i64 0), (.int .i64 0), (.int .i64 0), (.int .i64 0), (.int .i64 0)] [(0, (.s 1)), (1, (.s 2)), (2, (.s 3)), (3, (.s 4))])⟩,
 vM 0 5])
 (.ret))
def k45 : Cd :=
  .seq (.region [⟨none, some 4, .inl (.mv (.c (.slice none 0 0)))⟩,
 ⟨none, some 5, .inl (.mv (.c (.int .i64 0)))⟩])
 (.seq (.seq (.region [vM 9 0,
 ⟨none, some 10, .inr (.fn 29 [(.s 9)])⟩,
 vM 6 10])
 (.seq (.region [vM 11 6,
 ⟨none, some 12, .inl (.bin .neq (.s 11) (.c (.int .i64 0)))⟩])
 (.cond (.s 12) (.seq (.region [vM 13 6,
 ⟨none, some 4, .inl (.mv (.c (.slice none 0 0)))⟩,
 vM 5 13])
 (.ret))
 (.skip))))
 (.seq (.region [vM 15 0,
 ⟨none, some 16, .inr (.fn 51 [(.s 15), (.f 52)])⟩,
 ⟨none, some 17, .inr (.fn 70 [(.s 16)])⟩,
 vM 14 17,
 ⟨none, some 18, .inl (.ex (.s 14) 0)⟩,
 ⟨none, some 19, .inl (.ex (.s 14) 1)⟩,
 ⟨none, some 7, .inl (.alloc 74 [(.slice none 0 0), (.slice none 0 0)])⟩,
 ⟨none, none, .inl (.st 2 (.s 7) (.s 18))⟩,
 vM 8 19])
 (.seq (.seq (.region [vM 20 8,
 ⟨none, some 21, .inl (.not (.s 20))⟩])
 (.cond (.s 21) (.seq (.region [⟨none, some 4, .inl (.mv (.c (.slice none 0 0)))⟩,
 ⟨none, some 5, .inl (.mv (.c (.int .i64 25)))⟩])
 (.ret))
 (.skip)))
 (.seq (.region [⟨none, some 22, .inl (.ld true 2 (.s 7))⟩,
 ⟨none, some 23, .inr (.fn 88 [(.s 22)])⟩,
 vM 24 1,
 ⟨none, some 25, .inr (.fn 89 [(.s 23), (.s 24)])⟩,
 vM 4 25,
 ⟨none, some 5, .inl (.mv (.c (.int .i64 0)))⟩])
 (.ret)))))
def k46l0 : Cd :=
  .seq (.region [⟨none, some 14, .inl (.bin .lss (.s 13) (.s 12))⟩])
 (.seq (.cond (.s 14) (.skip)
 (.exit 0))
 (.seq (.block 1 (.seq (.region [vM 15 13,
 vM 5 15])
 (.seq (.draw [⟨vM 16 0, some [], [], 0, false⟩,
 ⟨vM 17 5, some [], [], 0, false⟩,
 ⟨vI 18 2 16 17, some [], [], 3, false⟩,
 ⟨⟨none, some 19, .inl (.ld true 2 (.s 18))⟩, some [], [], 7, false⟩,
 ⟨vM 20 1, some [], [], 0, false⟩,
 ⟨vM 21 5, some [], [], 0, false⟩,
 ⟨vI 22 2 20 21, some [], [], 48, false⟩,
 ⟨⟨none, some 23, .inl (.ld true 2 (.s 22))⟩, some [], [], 112, false⟩,
 ⟨⟨none, some 24, .inl (.eq true (.cells [.int, .int]) (.s 19) (.s 23))⟩, some [], [], 255, false⟩])
 (.cond (.s 24) (.seq (.region [⟨none, some 4, .inl (.mv (.c (.bool false)))⟩])
 (.ret))
 (.skip)))))
 (.region [⟨none, some 25, .inl (.bin .add (.s 13) (.c (.int .i64 1)))⟩,
 vM 13 25])))
def k46 : Cd :=
  .seq (.region [⟨none, some 4, .inl (.mv (.c (.bool false)))⟩])
 (.seq (.seq (.region [vM 6 0,
 ⟨none, some 7, .inl (.len (.s 6))⟩,
 vM 8 1,
 ⟨none, some 9, .inl (.len (.s 8))⟩,
 ⟨none, some 10, .inl (.bin .neq (.s 7) (.s 9))⟩])
 (.cond (.s 10) (.seq (.region [⟨none, some 4, .inl (.mv (.c (.bool false)))⟩])
 (.ret))
 (.skip)))
 (.seq (.seq (.region [vM 11 0,
 ⟨none, some 12, .inl (.len (.s 11))⟩,
 ⟨none, some 13, .inl (.mv (.c (.int .i64 0)))⟩])
 (.block 0 (.loop k46l0)))
 (.seq (.region [⟨none, some 4, .inl (.mv (.c (.bool true)))⟩])
 (.ret))))
def k47 : Cd :=
  .seq (.region [⟨none, some 4, .inl (.mv (.c (.int .i64 0)))⟩])
 (.seq (.region [vM 10 0,
 vM 11 1,
 ⟨none, some 12, .inr (.fn 10 [(.s 10), (.s 11)])⟩,
 vM 9 12,
 ⟨none, some 13, .inl (.ex (.s 9) 0)⟩,
 ⟨none, some 14, .inl (.ex (.s 9) 1)⟩,
 ⟨none, some 15, .inl (.ex (.s 9) 2)⟩,
 ⟨none, some 16, .inl (.ex (.s 9) 3)⟩,
 vM 5 13,
 vM 6 14,
 vM 7 15,
 vM 8 16])
 (.seq (.seq (.region [vM 17 8,
 ⟨none, some 18, .inl (.bin .neq (.s 17) (.c (.int .i64 0)))⟩])
 (.cond (.s 18) (.seq (.region [vM 19 8,
 vM 4 19])
 (.ret))
 (.skip)))
 (.seq (.seq (.region [vM 20 5,
 vM 21 6,
 ⟨none, some 22, .inl (.bin .neq (.s 20) (.s 21))⟩,
 vM 23 22,
 ⟨some (23, false), some 24, .inl (.mv (.s 7))⟩,
 ⟨some (23, false), some 25, .inl (.bin .geq (.s 24) (.c (.int .i64 0)))⟩,
 ⟨none, some 26, .inl (.pick (.s 23) (.c (.bool true)) (.s 25))⟩])
 (.cond (.s 26) (.seq (.region [⟨none, some 4, .inl (.mv (.c (.int .i64 21)))⟩])
 (.ret))
 (.skip)))
 (.seq (.region [⟨none, some 4, .inl (.mv (.c (.int .i64 0)))⟩])
 (.ret)))))
def k48 : Cd :=
  .seq (.region [⟨none, some 6, .inl (.alloc 76 [(.slice none 0 0), (.slice none 0 0), (.int .i64 0), (.int .i64 0)])⟩,
 ⟨none, some 7, .inl (.mv (.c (.int .i64 0)))⟩])
 (.seq (.seq (.region [vM 14 0,
 ⟨none, some 15, .inr (.fn 29 [(.s 14)])⟩,
 vM 8 15])
 (.seq (.region [vM 16 8,
 ⟨none, some 17, .inl (.bin .neq (.s 16) (.c (.int .i64 0)))⟩])
 (.cond (.s 17) (.seq (.region [⟨none, some 18, .inl (.bld [(.slice none 0 0), (.slice none 0 0), (.int .i64 0), (.int .i64 0)] [])⟩,
 vM 19 8,
 ⟨none, none, .inl (.st 4 (.s 6) (.s 18))⟩,
 vM 7 19])
 (.ret))
 (.skip))))
 (.seq (.region [vM 20 0,
 ⟨none, some 21, .inr (.fn 51 [(.s 20), (.f 52)])⟩,
 ⟨none, some 9, .inl (.alloc 83 [(.slice none 0 0), (.slice none 0 0)])⟩,
 ⟨none, none, .inl (.st 2 (.s 9) (.s 21))⟩])
 (.seq (.draw [⟨vF 22 9 0, some [], [], 0, false⟩,
 ⟨vL 23 1 22, some [], [], 1, false⟩,
 ⟨vM 24 1, some [], [], 0, false⟩,
 ⟨⟨none, some 25, .inr (.fn 60 [(.s 23), (.s 24)])⟩, some [], [], 7, false⟩,
 ⟨vF 26 9 0, some [], [], 0, false⟩,
 ⟨vL 27 1 26, some [], [], 16, false⟩,
 ⟨vM 28 2, some [], [], 0, false⟩,
 ⟨⟨none, some 29, .inr (.fn 60 [(.s 27), (.s 28)])⟩, some [], [], 127, false⟩,
 ⟨vM 10 25, some [], [], 255, false⟩,
 ⟨vM 11 29, some [], [], 511, false⟩])
 (.seq (.seq (.region [vM 30 10,
 ⟨none, some 31, .inl (.bin .eql (.s 30) (.c (.int .i64 (-1))))⟩,
 vM 32 31,
 ⟨some (32, false), some 33, .inl (.mv (.s 11))⟩,
 ⟨some (32, false), some 34, .inl (.bin .eql (.s 33) (.c (.int .i64 (-1))))⟩,
 ⟨none, some 35, .inl (.pick (.s 32) (.c (.bool true)) (.s 34))⟩])
 (.cond (.s 35) (.seq (.region [⟨none, some 36, .inl (.bld [(.slice none 0 0), (.slice none 0 0), (.int .i64 0), (.int .i64 0)] [])⟩,
 ⟨none, none, .inl (.st 4 (.s 6) (.s 36))⟩,
 ⟨none, some 7, .inl (.mv (.c (.int .i64 3)))⟩])
 (.ret))
 (.skip)))
 (.seq (.region [⟨none, some 38, .inl (.ld true 2 (.s 9))⟩,
 ⟨none, some 39, .inr (.fn 70 [(.s 38)])⟩,
 vM 37 39,
 ⟨none, some 40, .inl (.ex (.s 37) 0)⟩,
 ⟨none, some 41, .inl (.ex (.s 37) 1)⟩,
 ⟨none, some 12, .inl (.alloc 74 [(.slice none 0 0), (.slice none 0 0)])⟩,
 ⟨none, none, .inl (.st 2 (.s 12) (.s 40))⟩,
 vM 13 41])
 (.seq (.seq (.region [vM 42 13,
 ⟨none, some 43, .inl (.not (.s 42))⟩])
 (.cond (.s 43) (.seq (.region [⟨none, some 44, .inl (.bld [(.slice none 0 0), (.slice none 0 0), (.int .i64 0), (.int .i64 0)] [])⟩,
 ⟨none, none, .inl (.st 4 (.s 6) (.s 44))⟩,
 ⟨none, some 7, .inl (.mv (.c (.int .i64 25)))⟩])
 (.ret))
 (.skip)))
 (.seq (.region [⟨none, some 45, .inl (.ld true 2 (.s 12))⟩,
 vM 46 10,
 vM 47 11,
 ⟨none, some 48, .inl (.bld [(.slice none 0 0), (.slice none 0 0), (.int .i64 0), (.int .i64 0)] [(0, 2, (.s 45)), (2, 1, (.s 46)), (3, 1, (.s 47))])⟩,
 ⟨none, none, .inl (.st 4 (.s 6) (.s 48))⟩,
 ⟨none, some 7, .inl (.mv (.c (.int .i64 0)))⟩])
 (.ret))))))))
def k49 : Cd :=
  .seq (.region [⟨none, some 3, .inl (.box 74 2 (.s 0))⟩,
 ⟨none, some 6, .inl (.mv (.c (.bool false)))⟩])
 (.seq (.region [vF 7 3 0,
 vF 8 7 1,
 vL 9 1 8,
 vM 10 1,
 vI 11 1 9 10,
 vL 12 1 11,
 vM 13 2,
 vI 14 1 12 13,
 vL 15 1 14,
 ⟨none, some 16, .inl (.bin .eql (.s 15) (.c (.int .i64 1000000000)))⟩,
 vM 6 16])
 (.ret))
def k50l0 : Cd :=
  .seq (.seq (.region [vL 14 1 7,
 vF 15 2 3,
 vL 16 1 15,
 ⟨none, some 17, .inl (.bin .neq (.s 14) (.s 16))⟩])
 (.cond (.s 17) (.skip)
 (.exit 0)))
 (.seq (.block 1 (.seq (.region [vM 18 1,
 ⟨none, some 19, .inl (.mkf (.func 92) [] [(.s 7), (.s 5), (.s 2)])⟩,
 ⟨none, some 20, .inr (.fn 91 [(.s 18), (.s 19)])⟩,
 vM 8 20])
 (.seq (.region [vM 21 6,
 vM 22 1,
 vM 23 8,
 vI 24 5 22 23,
 vF 25 24 0,
 ⟨none, some 26, .inl (.ld true 2 (.s 25))⟩,
 ⟨none, some 27, .inl (.bs 61 2 1 [(.int .i64 0), (.bool false)] [(0, (.s 26))])⟩,
 ⟨none, some 28, .inl (.app 61 2 16 (.s 21) (.s 27))⟩,
 vM 6 28])
 (.region [vM 29 1,
 vM 30 8,
 vI 31 5 29 30,
 vF 32 31 3,
 vL 33 1 32,
 ⟨none, none, .inl (.st 1 (.s 7) (.s 33))⟩]))))
 (.seq (.region [vL 34 1 7])
 (.region [⟨none, some 7, .inl (.alloc 3 [(.int .i64 0)])⟩,
 ⟨none, none, .inl (.st 1 (.s 7) (.s 34))⟩])))
def k50 : Cd :=
  .seq (.region [⟨none, some 2, .inl (.box 76 4 (.s 0))⟩,
 ⟨none, some 4, .inl (.mv (.c (.slice none 0 0)))⟩])
 (.seq (.region [⟨none, some 9, .inl (.ld true 4 (.s 2))⟩,
 vM 10 1,
 ⟨none, some 11, .inr (.fn 90 [(.s 9), (.s 10)])⟩,
 ⟨none, some 5, .inl (.alloc 31 [(.slice none 0 0)])⟩,
 ⟨none, none, .inl (.st 1 (.s 5) (.s 11))⟩])
 (.seq (.region [⟨none, some 6, .inl (.mv (.c (.slice none 0 0)))⟩])
 (.seq (.seq (.region [vF 12 2 2,
 vL 13 1 12,
 ⟨none, some 7, .inl (.alloc 3 [(.int .i64 0)])⟩,
 ⟨none, none, .inl (.st 1 (.s 7) (.s 13))⟩])
 (.block 0 (.loop k50l0)))
 (.seq (.region [vM 35 6,
 vM 4 35])
 (.ret)))))
def k51l0 : Cd :=
  .seq (.region [⟨none, some 19, .inl (.bin .lss (.s 18) (.s 17))⟩])
 (.seq (.cond (.s 19) (.skip)
 (.exit 0))
 (.seq (.block 1 (.seq (.region [vM 20 18,
 vI 21 5 16 18,
 ⟨none, some 22, .inl (.ld true 5 (.s 21))⟩,
 ⟨none, some 7, .inl (.alloc 42 [(.int .i64 0), (.int .i64 0), (.int .i64 0), (.int .i64 0), (.int .i64 0)])⟩,
 vM 6 20,
 ⟨none, none, .inl (.st 5 (.s 7) (.s 22))⟩])
 (.seq (.region [vM 23 1,
 vM 24 6,
 ⟨none, some 25, .inr (.val false (.s 23) [(.s 24)])⟩])
 (.cond (.s 25) (.region [vM 26 5,
 ⟨none, some 27, .inl (.ld true 5 (.s 7))⟩,
 ⟨none, some 28, .inl (.bs 42 5 1 [(.int .i64 0), (.int .i64 0), (.int .i64 0), (.int .i64 0), (.int .i64 0)] [(0, (.s 27))])⟩,
 ⟨none, some 29, .inl (.app 42 5 40 (.s 26) (.s 28))⟩,
 vM 5 29])
 (.skip)))))
 (.region [⟨none, some 30, .inl (.bin .add (.s 18) (.c (.int .i64 1)))⟩,
 vM 18 30])))
def k51l1 : Cd :=
  .seq (.region [⟨none, some 41, .inl (.bin .lss (.s 40) (.s 39))⟩])
 (.seq (.cond (.s 41) (.skip)
 (.exit 2))
 (.seq (.block 3 (.seq (.region [vM 42 40,
 vI 43 5 38 40,
 ⟨none, some 44, .inl (.ld true 5 (.s 43))⟩,
 ⟨none, some 10, .inl (.alloc 42 [(.int .i64 0), (.int .i64 0), (.int .i64 0), (.int .i64 0), (.int .i64 0)])⟩,
 vM 9 42,
 ⟨none, none, .inl (.st 5 (.s 10) (.s 44))⟩])
 (.seq (.seq (.region [vM 45 1,
 vM 46 9,
 ⟨none, some 47, .inr (.val false (.s 45) [(.s 46)])⟩,
 ⟨none, some 48, .inl (.not (.s 47))⟩])
 (.cond (.s 48) (.exit 3)
 (.skip)))
 (.seq (.draw [⟨vF 49 8 0, some [], [], 0, false⟩,
 ⟨vL 50 1 49, some [], [], 1, false⟩,
 ⟨vF 51 10 0, some [], [], 0, false⟩,
 ⟨vL 52 1 51, some [], [], 4, false⟩,
 ⟨⟨none, some 53, .inr (.fn 60 [(.s 50), (.s 52)])⟩, some [], [], 15, false⟩,
 ⟨vF 54 8 0, some [], [], 0, false⟩,
 ⟨vL 55 1 54, some [], [], 32, false⟩,
 ⟨vF 56 10 1, some [], [], 0, false⟩,
 ⟨vL 57 1 56, some [], [], 128, false⟩,
 ⟨⟨none, some 58, .inr (.fn 60 [(.s 55), (.s 57)])⟩, some [], [], 511, false⟩,
 ⟨vM 11 53, some [], [], 1023, false⟩,
 ⟨vM 12 58, some [], [], 2047, false⟩])
 (.region [vF 59 8 1,
 vL 60 1 59,
 vM 61 9,
 ⟨none, some 62, .inl (.bld [(.int .i64 0), (.bool false)] [(0, 1, (.s 61))])⟩,
 vM 63 11,
 vM 64 12,
 vF 65 10 3,
 vL 66 1 65,
 ⟨none, some 67, .inl (.bld [(.int .i64 0), (.bool false), (.int .i64 0), (.int .i64 0), (.int .i64 0)] [(0, 2, (.s 62)), (2, 1, (.s 63)), (3, 1, (.s 64)), (4, 1, (.s 66))])⟩,
 vM 68 9,
 ⟨none, some 69, .inl (.bld [(.int .i64 0), (.bool false)] [(0, 1, (.s 68)), (1, 1, (.c (.bool true)))])⟩,
 vM 70 12,
 vM 71 11,
 vF 72 10 2,
 vL 73 1 72,
 ⟨none, some 74, .inl (.neg (.s 73))⟩,
 ⟨none, some 75, .inl (.bld [(.int .i64 0), (.bool false), (.int .i64 0), (.int .i64 0), (.int .i64 0)] [(0, 2, (.s 69)), (2, 1, (.s 70)), (3, 1, (.s 71)), (4, 1, (.s 74))])⟩,
 ⟨none, some 76, .inl (.bs 121 5 2 [(.int .i64 0), (.bool false), (.int .i64 0), (.int .i64 0), (.int .i64 0)] [(0, (.s 67)), (1, (.s 75))])⟩,
 ⟨none, some 77, .inl (.app 121 5 40 (.s 60) (.s 76))⟩,
 vF 78 8 1,
 ⟨none, none, .inl (.st 1 (.s 78) (.s 77))⟩])))))
 (.region [⟨none, some 79, .inl (.bin .add (.s 40) (.c (.int .i64 1)))⟩,
 vM 40 79])))
def k51 : Cd :=
  .seq (.region [⟨none, some 4, .inl (.alloc 83 [(.slice none 0 0), (.slice none 0 0)])⟩])
 (.seq (.region [vM 13 0,
 ⟨none, some 14, .inl (.len (.s 13))⟩,
 ⟨none, some 15, .inl (.mks 42 5 40 [(.int .i64 0), (.int .i64 0), (.int .i64 0), (.int .i64 0), (.int .i64 0)] (.c (.int .i64 0)) (.s 14))⟩,
 vM 5 15])
 (.seq (.seq (.region [vM 16 0,
 ⟨none, some 17, .inl (.len (.s 16))⟩,
 ⟨none, some 18, .inl (.mv (.c (.int .i64 0)))⟩])
 (.block 0 (.loop k51l0)))
 (.seq (.draw [⟨vM 31 5, some [], [], 0, false⟩,
 ⟨⟨none, some 32, .inr (.fn 71 [(.s 31)])⟩, (some [.at 5]), [.fr 36, .fr 8], 1, false⟩,
 ⟨vM 33 5, some [], [], 0, false⟩,
 ⟨⟨none, some 34, .inl (.len (.s 33))⟩, some [], [], 4, false⟩,
 ⟨⟨none, some 35, .inl (.bin .mul (.c (.int .i64 2)) (.s 34))⟩, some [], [], 12, false⟩,
 ⟨⟨none, some 36, .inl (.mks 121 5 40 [(.int .i64 0), (.bool false), (.int .i64 0), (.int .i64 0), (.int .i64 0)] (.c (.int .i64 0)) (.s 35))⟩, (some [.fr 36]), [.at 5, .fr 8], 28, false⟩,
 ⟨⟨none, some 37, .inl (.bld [(.slice none 0 0), (.slice none 0 0)] [(0, 1, (.s 32)), (1, 1, (.s 36))])⟩, some [], [], 63, false⟩,
 ⟨⟨none, some 8, .inl (.alloc 83 [(.slice none 0 0), (.slice none 0 0)])⟩, (some [.fr 8]), [.at 5, .fr 36], 0, false⟩,
 ⟨⟨none, none, .inl (.st 2 (.s 8) (.s 37))⟩, (some [.fr 8]), [], 255, false⟩])
 (.seq (.seq (.region [vM 38 0,
 ⟨none, some 39, .inl (.len (.s 38))⟩,
 ⟨none, some 40, .inl (.mv (.c (.int .i64 0)))⟩])
 (.block 2 (.loop k51l1)))
 (.seq (.region [⟨none, some 80, .inl (.ld true 2 (.s 8))⟩,
 ⟨none, none, .inl (.st 2 (.s 4) (.s 80))⟩])
 (.ret))))))
def k52 : Cd :=
  .seq (.region [⟨none, some 2, .inl (.mv (.c (.bool false)))⟩])
 (.seq (.region [⟨none, some 2, .inl (.mv (.c (.bool true)))⟩])
 (.ret))
def k53l0 : Cd :=
  .seq (.region [⟨none, some 28, .inl (.bin .lss (.s 27) (.s 26))⟩])
 (.seq (.cond (.s 28) (.skip)
 (.exit 2))
 (.seq (.block 3 (.seq (.region [vM 29 27,
 vM 7 29])
 (.seq (.region [vM 30 5,
 vM 31 7,
 ⟨none, some 32, .inl (.bin .neq (.s 30) (.s 31))⟩])
 (.cond (.s 32) (.region [vM 33 6,
 vM 34 7,
 vI 35 1 33 34,
 ⟨none, none, .inl (.st 1 (.s 35) (.c (.int .i64 1000000000)))⟩])
 (.skip)))))
 (.region [⟨none, some 36, .inl (.bin .add (.s 27) (.c (.int .i64 1)))⟩,
 vM 27 36])))
def k53l1 : Cd :=
  .seq (.region [⟨none, some 19, .inl (.bin .lss (.s 18) (.s 17))⟩])
 (.seq (.cond (.s 19) (.skip)
 (.exit 0))
 (.seq (.block 1 (.seq (.region [vM 20 18,
 vM 5 20])
 (.seq (.region [vF 21 4 0,
 vL 22 1 21,
 ⟨none, some 23, .inl (.len (.s 22))⟩,
 ⟨none, some 24, .inl (.mks 3 1 8 [(.int .i64 0)] (.s 23) (.s 23))⟩,
 vM 6 24])
 (.seq (.seq (.region [vM 25 6,
 ⟨none, some 26, .inl (.len (.s 25))⟩,
 ⟨none, some 27, .inl (.mv (.c (.int .i64 0)))⟩])
 (.block 2 (.loop k53l0)))
 (.region [vF 37 4 1,
 vL 38 1 37,
 vM 39 6,
 ⟨none, some 40, .inl (.bs 31 1 1 [(.slice none 0 0)] [(0, (.s 39))])⟩,
 ⟨none, some 41, .inl (.app 31 1 24 (.s 38) (.s 40))⟩,
 vF 42 4 1,
 ⟨none, none, .inl (.st 1 (.s 42) (.s 41))⟩])))))
 (.region [⟨none, some 43, .inl (.bin .add (.s 18) (.c (.int .i64 1)))⟩,
 vM 18 43])))
def k53l2 : Cd :=
  .seq (.region [⟨none, some 47, .inl (.bin .lss (.s 46) (.s 45))⟩])
 (.seq (.cond (.s 47) (.skip)
 (.exit 4))
 (.seq (.block 5 (.seq (.region [vI 48 5 44 46,
 ⟨none, some 49, .inl (.ld true 5 (.s 48))⟩,
 ⟨none, some 9, .inl (.alloc 42 [(.int .i64 0), (.int .i64 0), (.int .i64 0), (.int .i64 0), (.int .i64 0)])⟩,
 ⟨none, none, .inl (.st 5 (.s 9) (.s 49))⟩])
 (.seq (.region [vF 50 4 0,
 vL 51 1 50,
 vF 52 9 0,
 vL 53 1 52,
 ⟨none, some 54, .inr (.fn 56 [(.s 51), (.s 53)])⟩,
 vM 10 54])
 (.seq (.region [vF 55 4 0,
 vL 56 1 55,
 vF 57 9 1,
 vL 58 1 57,
 ⟨none, some 59, .inr (.fn 56 [(.s 56), (.s 58)])⟩,
 vM 11 59])
 (.seq (.draw [⟨vF 60 4 1, some [], [], 0, false⟩,
 ⟨vL 61 1 60, some [], [], 1, false⟩,
 ⟨vM 62 10, some [], [], 0, false⟩,
 ⟨vI 63 1 61 62, some [], [], 7, false⟩,
 ⟨vL 64 1 63, some [], [], 15, false⟩,
 ⟨vM 65 11, some [], [], 0, false⟩,
 ⟨vF 66 4 1, some [], [], 0, false⟩,
 ⟨vL 67 1 66, some [], [], 64, false⟩,
 ⟨vM 68 10, some [], [], 0, false⟩,
 ⟨vI 69 1 67 68, some [], [], 448, false⟩,
 ⟨vL 70 1 69, some [], [], 960, false⟩,
 ⟨vM 71 11, some [], [], 0, false⟩,
 ⟨vI 72 1 70 71, some [], [], 4032, false⟩,
 ⟨vL 73 1 72, some [], [], 8128, false⟩,
 ⟨vF 74 9 3, some [], [], 0, false⟩,
 ⟨vL 75 1 74, some [], [], 16384, false⟩,
 ⟨⟨none, some 76, .inl (.mm false (.s 73) (.s 75))⟩, some [], [], 65472, false⟩,
 ⟨vI 77 1 64 65, some [], [], 131071, false⟩,
 ⟨⟨none, none, .inl (.st 1 (.s 77) (.s 76))⟩, (some [.at 64]), [], 262143, false⟩])
 (.draw [⟨vF 78 4 1, some [], [], 0, false⟩,
 ⟨vL 79 1 78, some [], [], 1, false⟩,
 ⟨vM 80 11, some [], [], 0, false⟩,
 ⟨vI 81 1 79 80, some [], [], 7, false⟩,
 ⟨vL 82 1 81, some [], [], 15, false⟩,
 ⟨vM 83 10, some [], [], 0, false⟩,
 ⟨vF 84 4 1, some [], [], 0, false⟩,
 ⟨vL 85 1 84, some [], [], 64, false⟩,
 ⟨vM 86 11, some [], [], 0, false⟩,
 ⟨vI 87 1 85 86, some [], [], 448, false⟩,
 ⟨vL 88 1 87, some [], [], 960, false⟩,
 ⟨vM 89 10, some [], [], 0, false⟩,
 ⟨vI 90 1 88 89, some [], [], 4032, false⟩,
 ⟨vL 91 1 90, some [], [], 8128, false⟩,
 ⟨vF 92 9 2, some [], [], 0, false⟩,
 ⟨vL 93 1 92, some [], [], 16384, false⟩,
 ⟨⟨none, some 94, .inl (.neg (.s 93))⟩, some [], [], 49152, false⟩,
 ⟨⟨none, some 95, .inl (.mm false (.s 91) (.s 94))⟩, some [], [], 131008, false⟩,
 ⟨vI 96 1 82 83, some [], [], 262143, false⟩,
 ⟨⟨none, none, .inl (.st 1 (.s 96) (.s 95))⟩, (some [.at 82]), [], 524287, false⟩]))))))
 (.region [⟨none, some 97, .inl (.bin .add (.s 46) (.c (.int .i64 1)))⟩,
 vM 46 97])))
def k53 : Cd :=
  .seq (.region [⟨none, some 2, .inl (.alloc 40 [(.slice none 0 0), (.slice none 0 0)])⟩,
 ⟨none, some 3, .inl (.mv (.c (.bool false)))⟩])
 (.seq (.region [vM 12 0,
 ⟨none, some 13, .inr (.fn 54 [(.s 12)])⟩,
 ⟨none, some 14, .inl (.bld [(.slice none 0 0), (.slice none 0 0)] [(0, 1, (.s 13))])⟩,
 ⟨none, some 4, .inl (.alloc 40 [(.slice none 0 0), (.slice none 0 0)])⟩,
 ⟨none, none, .inl (.st 2 (.s 4) (.s 14))⟩])
 (.seq (.seq (.region [vF 15 4 0,
 vL 16 1 15,
 ⟨none, some 17, .inl (.len (.s 16))⟩,
 ⟨none, some 18, .inl (.mv (.c (.int .i64 0)))⟩])
 (.block 0 (.loop k53l1)))
 (.seq (.seq (.region [vM 44 0,
 ⟨none, some 45, .inl (.len (.s 44))⟩,
 ⟨none, some 46, .inl (.mv (.c (.int .i64 0)))⟩])
 (.block 4 (.loop k53l2)))
 (.seq (.draw [⟨⟨none, some 98, .inl (.ld true 2 (.s 4))⟩, some [], [.keep 4], 0, false⟩,
 ⟨⟨none, some 99, .inl (.ld true 2 (.s 4))⟩, some [], [], 0, false⟩,
 ⟨⟨none, some 100, .inr (.fn 66 [(.s 99)])⟩, none, [.av 4], 2, false⟩,
 ⟨⟨none, none, .inl (.st 2 (.s 2) (.s 98))⟩, (some [.at 2]), [], 7, false⟩,
 ⟨vM 3 100, some [], [], 15, false⟩])
 (.ret)))))
def k54l0 : Cd :=
  .seq (.region [⟨none, some 9, .inl (.bin .lss (.s 8) (.s 7))⟩])
 (.seq (.cond (.s 9) (.skip)
 (.exit 0))
 (.seq (.block 1 (.seq (.region [vI 10 5 6 8,
 ⟨none, some 11, .inl (.ld true 5 (.s 10))⟩,
 ⟨none, some 5, .inl (.alloc 42 [(.int .i64 0), (.int .i64 0), (.int .i64 0), (.int .i64 0), (.int .i64 0)])⟩,
 ⟨none, none, .inl (.st 5 (.s 5) (.s 11))⟩])
 (.draw [⟨vM 12 3, some [], [], 0, false⟩,
 ⟨vF 13 5 0, some [], [], 0, false⟩,
 ⟨vL 14 1 13, some [], [], 2, false⟩,
 ⟨⟨none, some 15, .inr (.fn 65 [(.s 12), (.s 14)])⟩, some [], [], 7, false⟩,
 ⟨vF 16 5 1, some [], [], 0, false⟩,
 ⟨vL 17 1 16, some [], [], 16, false⟩,
 ⟨⟨none, some 18, .inr (.fn 65 [(.s 15), (.s 17)])⟩, some [], [], 63, false⟩,
 ⟨vM 3 18, some [], [], 127, false⟩])))
 (.region [⟨none, some 19, .inl (.bin .add (.s 8) (.c (.int .i64 1)))⟩,
 vM 8 19])))
def k54 : Cd :=
  .seq (.region [⟨none, some 2, .inl (.mv (.c (.slice none 0 0)))⟩])
 (.seq (.region [⟨none, some 3, .inl (.mv (.c (.slice none 0 0)))⟩])
 (.seq (.seq (.region [vM 6 0,
 ⟨none, some 7, .inl (.len (.s 6))⟩,
 ⟨none, some 8, .inl (.mv (.c (.int .i64 0)))⟩])
 (.block 0 (.loop k54l0)))
 (.seq (.region [vM 20 3,
 vM 2 20])
 (.ret))))
def k56l0 : Cd :=
  .seq (.region [⟨none, some 10, .inl (.bin .lss (.s 9) (.s 8))⟩])
 (.seq (.cond (.s 10) (.skip)
 (.exit 0))
 (.seq (.block 1 (.seq (.region [vM 11 9,
 vI 12 1 7 9,
 vL 13 1 12,
 vM 5 11,
 vM 6 13])
 (.seq (.region [vM 14 6,
 vM 15 1,
 ⟨none, some 16, .inl (.bin .eql (.s 14) (.s 15))⟩])
 (.cond (.s 16) (.seq (.region [vM 17 5,
 vM 4 17])
 (.ret))
 (.skip)))))
 (.region [⟨none, some 18, .inl (.bin .add (.s 9) (.c (.int .i64 1)))⟩,
 vM 9 18])))
def k56 : Cd :=
  .seq (.region [⟨none, some 4, .inl (.mv (.c (.int .i64 0)))⟩])
 (.seq (.seq (.region [vM 7 0,
 ⟨none, some 8, .inl (.len (.s 7))⟩,
 ⟨none, some 9, .inl (.mv (.c (.int .i64 0)))⟩])
 (.block 0 (.loop k56l0)))
 (.seq (.region [⟨none, some 4, .inl (.mv (.c (.int .i64 (-1))))⟩])
 (.ret)))
def k60 : Cd :=
  .seq (.region [⟨none, some 4, .inl (.mv (.c (.int .i64 0)))⟩])
 (.seq (.region [vM 8 0,
 vM 9 1,
 ⟨none, some 10, .inr (.fn 98 [(.s 8), (.s 9)])⟩,
 vM 7 10,
 ⟨none, some 11, .inl (.ex (.s 7) 0)⟩,
 ⟨none, some 12, .inl (.ex (.s 7) 1)⟩,
 vM 5 11,
 vM 6 12])
 (.seq (.seq (.region [vM 13 6,
 ⟨none, some 14, .inl (.not (.s 13))⟩])
 (.cond (.s 14) (.seq (.region [⟨none, some 4, .inl (.mv (.c (.int .i64 (-1))))⟩])
 (.ret))
 (.skip)))
 (.seq (.region [vM 15 5,
 vM 4 15])
 (.ret))))
def k61 : Cd :=
  .seq (.region [⟨none, some 4, .inl (.box 74 2 (.s 0))⟩])
 (.draw [⟨vF 8 4 0, some [], [], 0, false⟩,
 ⟨vF 9 8 1, some [], [], 1, false⟩,
 ⟨vL 10 1 9, some [], [], 3, false⟩,
 ⟨vM 11 1, some [], [], 0, false⟩,
 ⟨vI 12 1 10 11, some [], [], 15, false⟩,
 ⟨vL 13 1 12, some [], [], 31, false⟩,
 ⟨vM 14 2, some [], [], 0, false⟩,
 ⟨vF 15 4 0, some [], [], 0, false⟩,
 ⟨vF 16 15 1, some [], [], 128, false⟩,
 ⟨vL 17 1 16, some [], [], 384, false⟩,
 ⟨vM 18 1, some [], [], 0, false⟩,
 ⟨vI 19 1 17 18, some [], [], 1920, false⟩,
 ⟨vL 20 1 19, some [], [], 3968, false⟩,
 ⟨vM 21 2, some [], [], 0, false⟩,
 ⟨vI 22 1 20 21, some [], [], 16256, false⟩,
 ⟨vL 23 1 22, some [], [], 32640, false⟩,
 ⟨vM 24 3, some [], [], 0, false⟩,
 ⟨⟨none, some 25, .inl (.mm false (.s 23) (.s 24))⟩, some [], [], 130944, false⟩,
 ⟨vI 26 1 13 14, some [], [], 262143, false⟩,
 ⟨⟨none, none, .inl (.st 1 (.s 26) (.s 25))⟩, (some [.at 13]), [], 524287, false⟩])
def k62l0 : Cd :=
  .seq (.region [⟨none, some 32, .inl (.bin .lss (.s 31) (.s 30))⟩])
 (.seq (.cond (.s 32) (.skip)
 (.exit 2))
 (.seq (.block 3 (.seq (.region [vM 33 31,
 vM 7 33])
 (.seq (.region [vM 34 4,
 vM 35 7,
 vI 36 1 34 35,
 vL 37 1 36,
 ⟨none, some 38, .inl (.bin .neq (.s 37) (.c (.int .i64 1000000000)))⟩])
 (.cond (.s 38) (.draw [⟨vM 39 6, some [], [], 0, false⟩,
 ⟨vM 40 7, some [], [], 0, false⟩,
 ⟨vM 41 6, some [], [], 0, false⟩,
 ⟨vM 42 7, some [], [], 0, false⟩,
 ⟨vI 43 1 41 42, some [], [], 12, false⟩,
 ⟨vL 44 1 43, some [], [], 28, false⟩,
 ⟨vM 45 6, some [], [], 0, false⟩,
 ⟨vM 46 1, some [], [], 0, false⟩,
 ⟨vI 47 1 45 46, some [], [], 192, false⟩,
 ⟨vL 48 1 47, some [], [], 448, false⟩,
 ⟨vM 49 4, some [], [], 0, false⟩,
 ⟨vM 50 7, some [], [], 0, false⟩,
 ⟨vI 51 1 49 50, some [], [], 3072, false⟩,
 ⟨vL 52 1 51, some [], [], 7168, false⟩,
 ⟨⟨none, some 53, .inl (.bin .add (.s 48) (.s 52))⟩, some [], [], 16320, false⟩,
 ⟨⟨none, some 54, .inl (.mm false (.s 44) (.s 53))⟩, some [], [], 32764, false⟩,
 ⟨vI 55 1 39 40, some [], [], 65535, false⟩,
 ⟨⟨none, none, .inl (.st 1 (.s 55) (.s 54))⟩, (some [.at 6]), [], 131071, false⟩])
 (.skip)))))
 (.region [⟨none, some 56, .inl (.bin .add (.s 31) (.c (.int .i64 1)))⟩,
 vM 31 56])))
def k62l1 : Cd :=
  .seq (.region [⟨none, some 19, .inl (.bin .lss (.s 18) (.s 17))⟩])
 (.seq (.cond (.s 19) (.skip)
 (.exit 0))
 (.seq (.block 1 (.seq (.region [vI 20 1 16 18,
 vL 21 1 20,
 vM 6 21])
 (.seq (.seq (.region [vM 22 6,
 vM 23 1,
 vI 24 1 22 23,
 vL 25 1 24,
 ⟨none, some 26, .inl (.bin .eql (.s 25) (.c (.int .i64 1000000000)))⟩])
 (.cond (.s 26) (.exit 1)
 (.skip)))
 (.seq (.region [vF 27 2 0,
 vF 28 27 0,
 vL 29 1 28,
 ⟨none, some 30, .inl (.len (.s 29))⟩,
 ⟨none, some 31, .inl (.mv (.c (.int .i64 0)))⟩])
 (.block 2 (.loop k62l0))))))
 (.region [⟨none, some 57, .inl (.bin .add (.s 18) (.c (.int .i64 1)))⟩,
 vM 18 57])))
def k62 : Cd :=
  .seq (.region [⟨none, some 2, .inl (.box 74 2 (.s 0))⟩])
 (.seq (.region [vF 8 2 0,
 vF 9 8 1,
 vL 10 1 9,
 vM 11 1,
 vI 12 1 10 11,
 vL 13 1 12,
 vM 4 13])
 (.seq (.region [vF 14 2 0,
 vF 15 14 1,
 vL 16 1 15,
 ⟨none, some 17, .inl (.len (.s 16))⟩,
 ⟨none, some 18, .inl (.mv (.c (.int .i64 0)))⟩])
 (.block 0 (.loop k62l1))))
def k65l0 : Cd :=
  .seq (.seq (.region [vM 9 5,
 ⟨none, some 10, .inl (.bin .gtr (.s 9) (.c (.int .i64 0)))⟩,
 vM 11 10,
 ⟨some (11, true), some 12, .inl (.mv (.s 0))⟩,
 ⟨some (11, true), some 13, .inl (.mv (.s 5))⟩,
 ⟨some (11, true), some 14, .inl (.bin .sub (.s 13) (.c (.int .i64 1)))⟩,
 ⟨some (11, true), some 15, .inl (.ias 1 (.s 12) (.s 14))⟩,
 ⟨some (11, true), some 16, .inl (.ld false 1 (.s 15))⟩,
 ⟨some (11, true), some 17, .inl (.mv (.s 1))⟩,
 ⟨some (11, true), some 18, .inl (.bin .geq (.s 16) (.s 17))⟩,
 ⟨none, some 19, .inl (.pick (.s 11) (.s 18) (.c (.bool false)))⟩])
 (.cond (.s 19) (.skip)
 (.exit 0)))
 (.block 1 (.region [vM 20 5,
 ⟨none, some 21, .inl (.bin .sub (.s 20) (.c (.int .i64 1)))⟩,
 vM 5 21]))
def k65 : Cd :=
  .seq (.region [⟨none, some 4, .inl (.mv (.c (.slice none 0 0)))⟩])
 (.seq (.region [vM 7 0,
 ⟨none, some 8, .inl (.len (.s 7))⟩,
 vM 5 8])
 (.seq (.block 0 (.loop k65l0))
 (.seq (.seq (.region [vM 22 5,
 vM 23 0,
 ⟨none, some 24, .inl (.len (.s 23))⟩,
 ⟨none, some 25, .inl (.bin .lss (.s 22) (.s 24))⟩,
 vM 26 25,
 ⟨some (26, true), some 27, .inl (.mv (.s 0))⟩,
 ⟨some (26, true), some 28, .inl (.mv (.s 5))⟩,
 ⟨some (26, true), some 29, .inl (.ias 1 (.s 27) (.s 28))⟩,
 ⟨some (26, true), some 30, .inl (.ld false 1 (.s 29))⟩,
 ⟨some (26, true), some 31, .inl (.mv (.s 1))⟩,
 ⟨some (26, true), some 32, .inl (.bin .eql (.s 30) (.s 31))⟩,
 ⟨none, some 33, .inl (.pick (.s 26) (.s 32) (.c (.bool false)))⟩])
 (.cond (.s 33) (.seq (.region [vM 34 0,
 vM 4 34])
 (.ret))
 (.skip)))
 (.seq (.region [⟨none, some 35, .inl (.bs 3 1 0 [(.int .i64 0)] [])⟩,
 vM 36 0,
 vM 37 5,
 ⟨none, some 38, .inl (.slc 1 (.s 36) none (some (.s 37)) none)⟩,
 ⟨none, some 39, .inl (.app 3 1 8 (.s 35) (.s 38))⟩,
 vM 6 39])
 (.seq (.region [vM 40 6,
 vM 41 1,
 ⟨none, some 42, .inl (.bs 3 1 1 [(.int .i64 0)] [(0, (.s 41))])⟩,
 ⟨none, some 43, .inl (.app 3 1 8 (.s 40) (.s 42))⟩,
 vM 6 43])
 (.seq (.region [vM 44 6,
 vM 45 0,
 vM 46 5,
 ⟨none, some 47, .inl (.slc 1 (.s 45) (some (.s 46)) none none)⟩,
 ⟨none, some 48, .inl (.app 3 1 8 (.s 44) (.s 47))⟩,
 vM 4 48])
 (.ret)))))))
def k66l0 : Cd :=
  .seq (.region [⟨none, some 22, .inl (.bin .lss (.s 21) (.s 20))⟩])
 (.seq (.cond (.s 22) (.skip)
 (.exit 4))
 (.seq (.block 5 (.seq (.region [vM 23 21,
 vM 5 23])
 (.seq (.region [vF 24 1 1,
 vL 25 1 24,
 vM 26 4,
 vI 27 1 25 26,
 vL 28 1 27,
 vM 29 3,
 vI 30 1 28 29,
 vL 31 1 30,
 ⟨none, some 32, .inl (.bin .neq (.s 31) (.c (.int .i64 1000000000)))⟩,
 vM 33 32,
 ⟨some (33, true), some 34, .inl (.fa (.s 1) 1)⟩,
 ⟨some (33, true), some 35, .inl (.ld false 1 (.s 34))⟩,
 ⟨some (33, true), some 36, .inl (.mv (.s 3))⟩,
 ⟨some (33, true), some 37, .inl (.ias 1 (.s 35) (.s 36))⟩,
 ⟨some (33, true), some 38, .inl (.ld false 1 (.s 37))⟩,
 ⟨some (33, true), some 39, .inl (.mv (.s 5))⟩,
 ⟨some (33, true), some 40, .inl (.ias 1 (.s 38) (.s 39))⟩,
 ⟨some (33, true), some 41, .inl (.ld false 1 (.s 40))⟩,
 ⟨some (33, true), some 42, .inl (.bin .neq (.s 41) (.c (.int .i64 1000000000)))⟩,
 ⟨none, some 43, .inl (.pick (.s 33) (.s 42) (.c (.bool false)))⟩])
 (.cond (.s 43) (.draw [⟨vF 44 1 1, some [], [], 0, false⟩,
 ⟨vL 45 1 44, some [], [], 1, false⟩,
 ⟨vM 46 4, some [], [], 0, false⟩,
 ⟨vI 47 1 45 46, some [], [], 7, false⟩,
 ⟨vL 48 1 47, some [], [], 15, false⟩,
 ⟨vM 49 5, some [], [], 0, false⟩,
 ⟨vF 50 1 1, some [], [], 0, false⟩,
 ⟨vL 51 1 50, some [], [], 64, false⟩,
 ⟨vM 52 4, some [], [], 0, false⟩,
 ⟨vI 53 1 51 52, some [], [], 448, false⟩,
 ⟨vL 54 1 53, some [], [], 960, false⟩,
 ⟨vM 55 5, some [], [], 0, false⟩,
 ⟨vI 56 1 54 55, some [], [], 4032, false⟩,
 ⟨vL 57 1 56, some [], [], 8128, false⟩,
 ⟨vF 58 1 1, some [], [], 0, false⟩,
 ⟨vL 59 1 58, some [], [], 16384, false⟩,
 ⟨vM 60 4, some [], [], 0, false⟩,
 ⟨vI 61 1 59 60, some [], [], 114688, false⟩,
 ⟨vL 62 1 61, some [], [], 245760, false⟩,
 ⟨vM 63 3, some [], [], 0, false⟩,
 ⟨vI 64 1 62 63, some [], [], 1032192, false⟩,
 ⟨vL 65 1 64, some [], [], 2080768, false⟩,
 ⟨vF 66 1 1, some [], [], 0, false⟩,
 ⟨vL 67 1 66, some [], [], 4194304, false⟩,
 ⟨vM 68 3, some [], [], 0, false⟩,
 ⟨vI 69 1 67 68, some [], [], 29360128, false⟩,
 ⟨vL 70 1 69, some [], [], 62914560, false⟩,
 ⟨vM 71 5, some [], [], 0, false⟩,
 ⟨vI 72 1 70 71, some [], [], 264241152, false⟩,
 ⟨vL 73 1 72, some [], [], 532676608, false⟩,
 ⟨⟨none, some 74, .inl (.bin .add (.s 65) (.s 73))⟩, some [], [], 1073725440, false⟩,
 ⟨⟨none, some 75, .inl (.mm false (.s 57) (.s 74))⟩, some [], [], 2147483584, false⟩,
 ⟨vI 76 1 48 49, some [], [], 4294967295, false⟩,
 ⟨⟨none, none, .inl (.st 1 (.s 76) (.s 75))⟩, (some [.at 48]), [], 8589934591, false⟩])
 (.skip)))))
 (.region [⟨none, some 77, .inl (.bin .add (.s 21) (.c (.int .i64 1)))⟩,
 vM 21 77])))
def k66l1 : Cd :=
  .seq (.region [⟨none, some 16, .inl (.bin .lss (.s 15) (.s 14))⟩])
 (.seq (.cond (.s 16) (.skip)
 (.exit 2))
 (.seq (.block 3 (.seq (.region [vM 17 15,
 vM 4 17])
 (.seq (.seq (.region [vF 18 1 0,
 vL 19 1 18,
 ⟨none, some 20, .inl (.len (.s 19))⟩,
 ⟨none, some 21, .inl (.mv (.c (.int .i64 0)))⟩])
 (.block 4 (.loop k66l0)))
 (.seq (.region [vF 78 1 1,
 vL 79 1 78,
 vM 80 4,
 vI 81 1 79 80,
 vL 82 1 81,
 vM 83 4,
 vI 84 1 82 83,
 vL 85 1 84,
 ⟨none, some 86, .inl (.bin .lss (.s 85) (.c (.int .i64 0)))⟩])
 (.cond (.s 86) (.seq (.region [⟨none, some 2, .inl (.mv (.c (.bool false)))⟩])
 (.ret))
 (.skip))))))
 (.region [⟨none, some 87, .inl (.bin .add (.s 15) (.c (.int .i64 1)))⟩,
 vM 15 87])))
def k66l2 : Cd :=
  .seq (.region [⟨none, some 10, .inl (.bin .lss (.s 9) (.s 8))⟩])
 (.seq (.cond (.s 10) (.skip)
 (.exit 0))
 (.seq (.block 1 (.seq (.region [vM 11 9,
 vM 3 11])
 (.seq (.region [vF 12 1 0,
 vL 13 1 12,
 ⟨none, some 14, .inl (.len (.s 13))⟩,
 ⟨none, some 15, .inl (.mv (.c (.int .i64 0)))⟩])
 (.block 2 (.loop k66l1)))))
 (.region [⟨none, some 88, .inl (.bin .add (.s 9) (.c (.int .i64 1)))⟩,
 vM 9 88])))
def k66 : Cd :=
  .seq (.region [⟨none, some 1, .inl (.box 40 2 (.s 0))⟩,
 ⟨none, some 2, .inl (.mv (.c (.bool false)))⟩])
 (.seq (.seq (.region [vF 6 1 0,
 vL 7 1 6,
 ⟨none, some 8, .inl (.len (.s 7))⟩,
 ⟨none, some 9, .inl (.mv (.c (.int .i64 0)))⟩])
 (.block 0 (.loop k66l2)))
 (.seq (.region [⟨none, some 2, .inl (.mv (.c (.bool true)))⟩])
 (.ret)))
def k67 : Cd :=
  .seq (.region [⟨none, some 6, .inl (.mv (.c (.bool false)))⟩])
 (.seq (.region [vM 7 1,
 vM 8 0,
 ⟨none, some 9, .inl (.bin .leq (.s 7) (.s 8))⟩,
 vM 10 9,
 ⟨some (10, true), some 11, .inl (.mv (.s 0))⟩,
 ⟨some (10, true), some 12, .inl (.mv (.s 2))⟩,
 ⟨some (10, true), some 13, .inl (.bin .leq (.s 11) (.s 12))⟩,
 ⟨none, some 14, .inl (.pick (.s 10) (.s 13) (.c (.bool false)))⟩,
 vM 6 14])
 (.ret))
def k70l0 : Cd :=
  .seq (.region [⟨none, some 17, .inl (.bin .lss (.s 16) (.s 15))⟩])
 (.seq (.cond (.s 17) (.skip)
 (.exit 0))
 (.seq (.block 1 (.seq (.region [vI 18 5 14 16,
 ⟨none, some 19, .inl (.ld true 5 (.s 18))⟩,
 ⟨none, some 5, .inl (.alloc 121 [(.int .i64 0), (.bool false), (.int .i64 0), (.int .i64 0), (.int .i64 0)])⟩,
 ⟨none, none, .inl (.st 5 (.s 5) (.s 19))⟩])
 (.region [⟨none, some 20, .inl (.ld true 2 (.s 2))⟩,
 vF 21 5 2,
 vL 22 1 21,
 vF 23 5 3,
 vL 24 1 23,
 vF 25 5 4,
 vL 26 1 25,
 ⟨none, some 27, .inr (.fn 61 [(.s 20), (.s 22), (.s 24), (.s 26)])⟩])))
 (.region [⟨none, some 28, .inl (.bin .add (.s 16) (.c (.int .i64 1)))⟩,
 vM 16 28])))
def k70l1 : Cd :=
  .seq (.region [⟨none, some 34, .inl (.bin .lss (.s 33) (.s 32))⟩])
 (.seq (.cond (.s 34) (.skip)
 (.exit 2))
 (.seq (.block 3 (.seq (.region [vM 35 33,
 vM 6 35])
 (.region [⟨none, some 36, .inl (.ld true 2 (.s 2))⟩,
 vM 37 6,
 ⟨none, some 38, .inr (.fn 62 [(.s 36), (.s 37)])⟩])))
 (.region [⟨none, some 39, .inl (.bin .add (.s 33) (.c (.int .i64 1)))⟩,
 vM 33 39])))
def k70 : Cd :=
  .seq (.region [⟨none, some 1, .inl (.box 83 2 (.s 0))⟩,
 ⟨none, some 2, .inl (.alloc 74 [(.slice none 0 0), (.slice none 0 0)])⟩,
 ⟨none, some 3, .inl (.mv (.c (.bool false)))⟩])
 (.seq (.seq (.region [⟨none, some 7, .inl (.ld true 2 (.s 1))⟩,
 ⟨none, some 8, .inr (.fn 101 [(.s 7)])⟩])
 (.cond (.s 8) (.seq (.region [⟨none, some 9, .inl (.bld [(.slice none 0 0), (.slice none 0 0)] [])⟩,
 ⟨none, none, .inl (.st 2 (.s 2) (.s 9))⟩,
 ⟨none, some 3, .inl (.mv (.c (.bool false)))⟩])
 (.ret))
 (.skip)))
 (.seq (.region [vF 10 1 0,
 vL 11 1 10,
 ⟨none, some 12, .inr (.fn 96 [(.s 11)])⟩,
 ⟨none, none, .inl (.st 2 (.s 2) (.s 12))⟩])
 (.seq (.seq (.region [vF 13 1 1,
 vL 14 1 13,
 ⟨none, some 15, .inl (.len (.s 14))⟩,
 ⟨none, some 16, .inl (.mv (.c (.int .i64 0)))⟩])
 (.block 0 (.loop k70l0)))
 (.seq (.seq (.region [vF 29 2 0,
 vF 30 29 0,
 vL 31 1 30,
 ⟨none, some 32, .inl (.len (.s 31))⟩,
 ⟨none, some 33, .inl (.mv (.c (.int .i64 0)))⟩])
 (.block 2 (.loop k70l1)))
 (.seq (.region [⟨none, some 40, .inl (.ld true 2 (.s 2))⟩,
 ⟨none, none, .inl (.st 2 (.s 2) (.s 40))⟩,
 ⟨none, some 3, .inl (.mv (.c (.bool true)))⟩])
 (.ret))))))
def k71 : Cd :=
  .seq (.region [⟨none, some 2, .inl (.mv (.c (.slice none 0 0)))⟩])
 (.seq (.region [⟨none, some 3, .inl (.alloc 131 [(.int .u64 0), (.int .u64 0), (.int .u64 0), (.int .u64 0), (.int .u64 0), (.int .u64 0), (.int .u64 0), (.int .u64 0), (.int .u64 0), (.int .u64 0), (.int .u64 0), (.int .u64 0), (.int .u64 0), (.int .u64 0), (.int .u64 0), (.int .u64 0), (.int .u64 0), (.int .u64 0), (.int .u64 0), (.int .u64 0), (.int .u64 0), (.int .u64 0), (.int .u64 0), (.int .u64 0), (.int .u64 0), (.int .u64 0), (.int .u64 0), (.int .u64 0), (.int .u64 0), (.int .u64 0), (.int .u64 0), (.int .u64 0), (.int .u64 0)])⟩])
 (.seq (.region [vM 4 0,
 ⟨none, some 5, .inr (.fn 102 [(.s 3), (.s 4)])⟩])
 (.seq (.region [⟨none, some 6, .inr (.fn 103 [(.s 3)])⟩,
 vM 2 6])
 (.ret))))
def k72 : Cd :=
  .seq (.region [⟨none, some 2, .inl (.mv (.c (.slice none 0 0)))⟩])
 (.seq (.region [vM 3 0,
 ⟨none, some 4, .inr (.fn 104 [(.s 3)])⟩])
 (.seq (.region [vM 5 0,
 ⟨none, some 6, .inr (.fn 105 [(.s 5)])⟩,
 vM 2 6])
 (.ret)))
def k75l0 : Cd :=
  .seq (.region [⟨none, some 12, .inl (.bin .lss (.s 11) (.s 10))⟩])
 (.seq (.cond (.s 12) (.skip)
 (.exit 0))
 (.seq (.block 1 (.seq (.region [vI 13 1 9 11,
 vL 14 1 13,
 vM 5 14])
 (.region [vM 15 3,
 vM 16 5,
 ⟨none, none, .inl (.upd .int (.s 15) (.s 16) (.c (.bool true)))⟩])))
 (.region [⟨none, some 17, .inl (.bin .add (.s 11) (.c (.int .i64 1)))⟩,
 vM 11 17])))
def k75 : Cd :=
  .seq (.region [⟨none, some 2, .inl (.mv (.c (.map none)))⟩])
 (.seq (.region [vM 6 0,
 ⟨none, some 7, .inl (.len (.s 6))⟩,
 ⟨none, some 8, .inl (.mkmc (.s 7))⟩,
 vM 3 8])
 (.seq (.seq (.region [vM 9 0,
 ⟨none, some 10, .inl (.len (.s 9))⟩,
 ⟨none, some 11, .inl (.mv (.c (.int .i64 0)))⟩])
 (.block 0 (.loop k75l0)))
 (.seq (.region [vM 18 3,
 vM 2 18])
 (.ret))))
def k76 : Cd :=
  .seq (.region [⟨none, some 1, .inl (.box 105 2 (.s 0))⟩,
 ⟨none, some 2, .inl (.mv (.c (.bool false)))⟩])
 (.seq (.region [vF 3 1 0,
 vL 4 1 3,
 ⟨none, some 5, .inl (.mkf (.func 106) [] [(.s 1)])⟩,
 ⟨none, some 6, .inr (.fn 51 [(.s 4), (.s 5)])⟩,
 ⟨none, some 7, .inr (.fn 101 [(.s 6)])⟩,
 vM 2 7])
 (.ret))
def k77 : Cd :=
  .seq (.region [⟨none, some 1, .inl (.box 31 1 (.s 0))⟩,
 ⟨none, some 2, .inl (.mv (.c .nilFunc))⟩])
 (.seq (.region [⟨none, some 3, .inl (.mkf (.func 107) [] [(.s 1)])⟩,
 vM 2 3])
 (.ret))
def k78 : Cd :=
  .seq (.region [⟨none, some 2, .inl (.box 105 2 (.s 0))⟩,
 ⟨none, some 4, .inl (.mv (.c (.bool false)))⟩])
 (.seq (.region [vF 6 2 1,
 vL 7 1 6,
 vM 8 1,
 ⟨none, none, .inl (.upd .int (.s 7) (.s 8) (.c (.bool false)))⟩])
 (.seq (.region [⟨none, some 9, .inl (.ld true 2 (.s 2))⟩,
 ⟨none, some 10, .inr (.fn 76 [(.s 9)])⟩,
 vM 5 10])
 (.seq (.region [vF 11 2 1,
 vL 12 1 11,
 vM 13 1,
 ⟨none, none, .inl (.upd .int (.s 12) (.s 13) (.c (.bool true)))⟩])
 (.seq (.region [vM 14 5,
 vM 4 14])
 (.ret)))))
def k79l0 : Cd :=
  .seq (.seq (.region [vM 16 6,
 vM 17 0,
 ⟨none, some 18, .inl (.len (.s 17))⟩,
 ⟨none, some 19, .inl (.bin .lss (.s 16) (.s 18))⟩])
 (.cond (.s 19) (.skip)
 (.exit 0)))
 (.seq (.block 1 (.seq (.region [vM 22 0,
 vM 23 6,
 vI 24 1 22 23,
 vL 25 1 24,
 vM 7 25])
 (.seq (.region [vM 26 1,
 vM 27 7,
 ⟨none, some 28, .inr (.val false (.s 26) [(.s 27)])⟩,
 ⟨none, some 29, .inl (.not (.s 28))⟩])
 (.cond (.s 29) (.seq (.region [vM 30 0,
 vM 31 5,
 vM 32 7,
 vI 33 1 30 31,
 ⟨none, none, .inl (.st 1 (.s 33) (.s 32))⟩])
 (.region [vM 34 5,
 ⟨none, some 35, .inl (.bin .add (.s 34) (.c (.int .i64 1)))⟩,
 vM 5 35]))
 (.skip)))))
 (.region [vM 20 6,
 ⟨none, some 21, .inl (.bin .add (.s 20) (.c (.int .i64 1)))⟩,
 vM 6 21]))
def k79 : Cd :=
  .seq (.region [⟨none, some 4, .inl (.mv (.c (.slice none 0 0)))⟩])
 (.seq (.region [vM 8 0,
 vM 9 1,
 ⟨none, some 10, .inr (.fn 108 [(.s 8), (.s 9)])⟩,
 vM 5 10])
 (.seq (.seq (.region [vM 11 5,
 ⟨none, some 12, .inl (.bin .eql (.s 11) (.c (.int .i64 (-1))))⟩])
 (.cond (.s 12) (.seq (.region [vM 13 0,
 vM 4 13])
 (.ret))
 (.skip)))
 (.seq (.seq (.region [vM 14 5,
 ⟨none, some 15, .inl (.bin .add (.s 14) (.c (.int .i64 1)))⟩,
 vM 6 15])
 (.block 0 (.loop k79l0)))
 (.seq (.region [vM 36 0,
 vM 37 5,
 ⟨none, some 38, .inl (.slc 1 (.s 36) (some (.s 37)) none none)⟩,
 ⟨none, none, .inl (.clr [(.int .i64 0)] (.s 38))⟩])
 (.seq (.region [vM 39 0,
 vM 40 5,
 ⟨none, some 41, .inl (.slc 1 (.s 39) none (some (.s 40)) none)⟩,
 vM 4 41])
 (.ret))))))
def k80 : Cd :=
  .seq (.region [⟨none, some 3, .inl (.mv (.c (.bool false)))⟩])
 (.seq (.region [vF 4 1 1,
 vL 5 1 4,
 vM 6 0,
 ⟨none, some 7, .inl (.lk .int (.bool false) false (.s 5) (.s 6))⟩,
 ⟨none, some 8, .inl (.not (.s 7))⟩,
 vM 3 8])
 (.ret))
def k85 : Cd :=
  .seq (.region [⟨none, some 3, .inl (.mv (.c (.bool false)))⟩])
 (.seq (.region [vM 4 0,
 vL 5 1 1,
 ⟨none, some 6, .inl (.bin .neq (.s 4) (.s 5))⟩,
 vM 3 6])
 (.ret))
def k86 : Cd :=
  .seq (.region [⟨none, some 2, .inl (.box 40 2 (.s 0))⟩,
 ⟨none, some 3, .inl (.box 40 2 (.s 1))⟩,
 ⟨none, some 4, .inl (.mv (.c (.bool false)))⟩])
 (.seq (.region [vF 5 2 0,
 vL 6 1 5,
 vF 7 3 0,
 vL 8 1 7,
 ⟨none, some 9, .inr (.fn 110 [(.s 6), (.s 8)])⟩,
 vM 10 9,
 ⟨some (10, true), some 11, .inl (.fa (.s 2) 1)⟩,
 ⟨some (10, true), some 12, .inl (.ld false 1 (.s 11))⟩,
 ⟨some (10, true), some 13, .inl (.fa (.s 3) 1)⟩,
 ⟨some (10, true), some 14, .inl (.ld false 1 (.s 13))⟩,
 ⟨some (10, true), some 15, .inr (.fn 111 [(.s 12), (.s 14), (.f 110)])⟩,
 ⟨none, some 16, .inl (.pick (.s 10) (.s 15) (.c (.bool false)))⟩,
 vM 4 16])
 (.ret))
def k87 : Cd :=
  .seq (.region [⟨none, some 2, .inl (.alloc 40 [(.slice none 0 0), (.slice none 0 0)])⟩,
 ⟨none, some 3, .inl (.mv (.c (.int .i64 0)))⟩])
 (.seq (.region [vM 7 0,
 ⟨none, some 8, .inr (.fn 26 [(.s 7)])⟩,
 vM 4 8])
 (.seq (.seq (.region [vM 9 4,
 ⟨none, some 10, .inl (.bin .neq (.s 9) (.c (.int .i64 0)))⟩])
 (.cond (.s 10) (.seq (.region [⟨none, some 11, .inl (.bld [(.slice none 0 0), (.slice none 0 0)] [])⟩,
 vM 12 4,
 ⟨none, none, .inl (.st 2 (.s 2) (.s 11))⟩,
 vM 3 12])
 (.ret))
 (.skip)))
 (.seq (.region [vM 14 0,
 ⟨none, some 15, .inr (.fn 53 [(.s 14)])⟩,
 vM 13 15,
 ⟨none, some 16, .inl (.ex (.s 13) 0)⟩,
 ⟨none, some 17, .inl (.ex (.s 13) 1)⟩,
 ⟨none, some 5, .inl (.alloc 40 [(.slice none 0 0), (.slice none 0 0)])⟩,
 ⟨none, none, .inl (.st 2 (.s 5) (.s 16))⟩,
 vM 6 17])
 (.seq (.seq (.region [vM 18 6,
 ⟨none, some 19, .inl (.not (.s 18))⟩])
 (.cond (.s 19) (.seq (.region [⟨none, some 20, .inl (.bld [(.slice none 0 0), (.slice none 0 0)] [])⟩,
 ⟨none, none, .inl (.st 2 (.s 2) (.s 20))⟩,
 ⟨none, some 3, .inl (.mv (.c (.int .i64 25)))⟩])
 (.ret))
 (.skip)))
 (.seq (.region [⟨none, some 21, .inl (.ld true 2 (.s 5))⟩,
 ⟨none, none, .inl (.st 2 (.s 2) (.s 21))⟩,
 ⟨none, some 3, .inl (.mv (.c (.int .i64 0)))⟩])
 (.ret))))))
def k88 : Cd :=
  .seq (.region [⟨none, some 1, .inl (.box 74 2 (.s 0))⟩,
 ⟨none, some 2, .inl (.alloc 115 [(.slice none 0 0), (.slice none 0 0), (.slice none 0 0), (.slice none 0 0)])⟩])
 (.seq (.draw [⟨⟨none, some 3, .inl (.ld true 2 (.s 1))⟩, some [], [.fr 8, .fr 13], 0, false⟩,
 ⟨vF 4 1 0, some [], [], 0, false⟩,
 ⟨vF 5 4 0, some [], [], 2, false⟩,
 ⟨vL 6 1 5, some [], [.fr 13], 6, false⟩,
 ⟨⟨none, some 7, .inl (.len (.s 6))⟩, some [], [], 14, false⟩,
 ⟨⟨none, some 8, .inl (.mks 3 1 8 [(.int .i64 0)] (.s 7) (.s 7))⟩, (some [.fr 8]), [.fr 13], 30, false⟩,
 ⟨vF 9 1 0, some [], [], 0, false⟩,
 ⟨vF 10 9 0, some [], [], 64, false⟩,
 ⟨vL 11 1 10, some [], [.fr 8], 192, false⟩,
 ⟨⟨none, some 12, .inl (.len (.s 11))⟩, some [], [], 448, false⟩,
 ⟨⟨none, some 13, .inl (.mks 4 1 1 [(.bool false)] (.s 12) (.s 12))⟩, (some [.fr 13]), [.fr 8], 960, false⟩,
 ⟨⟨none, some 14, .inl (.bld [(.slice none 0 0), (.slice none 0 0), (.slice none 0 0), (.slice none 0 0)] [(0, 2, (.s 3)), (2, 1, (.s 8)), (3, 1, (.s 13))])⟩, some [], [], 2047, false⟩,
 ⟨⟨none, none, .inl (.st 4 (.s 2) (.s 14))⟩, (some [.at 2]), [], 4095, false⟩])
 (.ret))
def k89l0 : Cd :=
  .seq (.region [⟨none, some 24, .inl (.bin .lss (.s 23) (.s 22))⟩])
 (.seq (.cond (.s 24) (.skip)
 (.exit 0))
 (.seq (.block 1 (.seq (.region [vM 25 23,
 vI 26 1 21 23,
 vL 27 1 26,
 vM 7 25,
 vM 8 27])
 (.seq (.seq (.region [vF 28 2 3,
 vL 29 1 28,
 vM 30 7,
 vI 31 1 29 30,
 vL 32 1 31,
 ⟨none, some 33, .inl (.not (.s 32))⟩])
 (.cond (.s 33) (.seq (.region [⟨none, some 35, .inl (.ld true 4 (.s 2))⟩,
 vM 36 7,
 ⟨none, some 37, .inr (.fn 112 [(.s 35), (.s 36)])⟩,
 vM 34 37,
 ⟨none, some 38, .inl (.ex (.s 34) 0)⟩,
 ⟨none, some 39, .inl (.ex (.s 34) 1)⟩,
 ⟨none, some 40, .inl (.ex (.s 34) 2)⟩,
 vM 9 38,
 vM 10 39,
 vM 11 40])
 (.seq (.region [vM 41 11])
 (.cond (.s 41) (.region [⟨none, some 42, .inl (.ld true 4 (.s 2))⟩,
 vM 43 7,
 ⟨none, some 44, .inr (.fn 113 [(.s 42), (.s 43), (.c (.int .i64 0))])⟩])
 (.seq (.draw [⟨⟨none, some 45, .inl (.ld true 4 (.s 2))⟩, some [], [], 0, false⟩,
 ⟨vM 46 7, some [], [], 0, false⟩,
 ⟨vM 47 9, some [], [], 0, false⟩,
 ⟨vM 48 1, some [], [], 0, false⟩,
 ⟨vM 49 5, some [], [], 0, false⟩,
 ⟨vM 50 10, some [], [], 0, false⟩,
 ⟨vM 51 9, some [], [], 0, false⟩,
 ⟨⟨none, some 52, .inl (.bin .sub (.s 50) (.s 51))⟩, some [], [], 96, false⟩,
 ⟨⟨none, some 53, .inl (.bin .add (.s 52) (.c (.int .i64 1)))⟩, some [], [], 224, false⟩,
 ⟨⟨none, some 54, .inr (.fn 114 [(.s 48), (.s 49), (.s 53)])⟩, some [], [], 504, false⟩,
 ⟨⟨none, some 55, .inl (.bin .add (.s 47) (.s 54))⟩, some [], [], 1020, false⟩,
 ⟨⟨none, some 56, .inr (.fn 113 [(.s 45), (.s 46), (.s 55)])⟩, none, [], 2047, false⟩])
 (.region [vM 57 5,
 ⟨none, some 58, .inl (.bin .add (.s 57) (.c (.int .i64 1)))⟩,
 vM 5 58])))))
 (.skip)))
 (.region [vM 59 6,
 vM 60 8,
 vF 61 2 2,
 vL 62 1 61,
 vM 63 7,
 vI 64 1 62 63,
 vL 65 1 64,
 ⟨none, some 66, .inl (.bld [(.int .i64 0), (.int .i64 0)] [(0, 1, (.s 60)), (1, 1, (.s 65))])⟩,
 ⟨none, some 67, .inl (.bs 71 2 1 [(.int .i64 0), (.int .i64 0)] [(0, (.s 66))])⟩,
 ⟨none, some 68, .inl (.app 71 2 16 (.s 59) (.s 67))⟩,
 vM 6 68]))))
 (.region [⟨none, some 69, .inl (.bin .add (.s 23) (.c (.int .i64 1)))⟩,
 vM 23 69])))
def k89 : Cd :=
  .seq (.region [⟨none, some 2, .inl (.box 115 4 (.s 0))⟩,
 ⟨none, some 4, .inl (.mv (.c (.slice none 0 0)))⟩])
 (.seq (.region [⟨none, some 5, .inl (.mv (.c (.int .i64 0)))⟩])
 (.seq (.region [vF 12 2 0,
 vF 13 12 0,
 vF 14 13 0,
 vL 15 1 14,
 ⟨none, some 16, .inl (.len (.s 15))⟩,
 ⟨none, some 17, .inl (.mks 71 2 16 [(.int .i64 0), (.int .i64 0)] (.c (.int .i64 0)) (.s 16))⟩,
 vM 6 17])
 (.seq (.seq (.region [vF 18 2 0,
 vF 19 18 0,
 vF 20 19 0,
 vL 21 1 20,
 ⟨none, some 22, .inl (.len (.s 21))⟩,
 ⟨none, some 23, .inl (.mv (.c (.int .i64 0)))⟩])
 (.block 0 (.loop k89l0)))
 (.seq (.region [vM 70 6,
 vM 4 70])
 (.ret)))))
def k90l0 : Cd :=
  .seq (.region [⟨none, some 31, .inl (.bin .lss (.s 30) (.s 29))⟩])
 (.seq (.cond (.s 31) (.skip)
 (.exit 2))
 (.seq (.block 3 (.seq (.region [vI 32 5 28 30,
 ⟨none, some 33, .inl (.ld true 5 (.s 32))⟩,
 ⟨none, some 8, .inl (.alloc 121 [(.int .i64 0), (.bool false), (.int .i64 0), (.int .i64 0), (.int .i64 0)])⟩,
 ⟨none, none, .inl (.st 5 (.s 8) (.s 33))⟩])
 (.seq (.seq (.region [vM 34 5,
 vF 35 2 2,
 vL 36 1 35,
 vI 37 1 34 36,
 vL 38 1 37,
 ⟨none, some 39, .inl (.bin .neq (.s 38) (.c (.int .i64 (-1))))⟩])
 (.cond (.s 39) (.exit 0)
 (.skip)))
 (.seq (.region [vM 40 5,
 vF 41 8 3,
 vL 42 1 41,
 vI 43 1 40 42,
 vL 44 1 43,
 vM 45 6,
 ⟨none, some 46, .inl (.bin .eql (.s 44) (.s 45))⟩,
 vM 47 46,
 ⟨some (47, true), some 48, .inl (.mv (.s 5))⟩,
 ⟨some (47, true), some 49, .inl (.fa (.s 8) 2)⟩,
 ⟨some (47, true), some 50, .inl (.ld false 1 (.s 49))⟩,
 ⟨some (47, true), some 51, .inl (.ias 1 (.s 48) (.s 50))⟩,
 ⟨some (47, true), some 52, .inl (.ld false 1 (.s 51))⟩,
 ⟨some (47, true), some 53, .inl (.bin .eql (.s 52) (.c (.int .i64 (-1))))⟩,
 ⟨none, some 54, .inl (.pick (.s 47) (.s 53) (.c (.bool false)))⟩,
 vM 55 54,
 ⟨some (55, true), some 56, .inl (.ld true 4 (.s 2))⟩,
 ⟨some (55, true), some 57, .inl (.ld true 5 (.s 8))⟩,
 ⟨some (55, true), some 58, .inr (.fn 93 [(.s 56), (.s 57)])⟩,
 ⟨none, some 59, .inl (.pick (.s 55) (.s 58) (.c (.bool false)))⟩])
 (.cond (.s 59) (.region [vM 60 5,
 vF 61 8 2,
 vL 62 1 61,
 vM 63 6,
 ⟨none, some 64, .inl (.bin .add (.s 63) (.c (.int .i64 1)))⟩,
 vI 65 1 60 62,
 ⟨none, none, .inl (.st 1 (.s 65) (.s 64))⟩])
 (.skip))))))
 (.region [⟨none, some 66, .inl (.bin .add (.s 30) (.c (.int .i64 1)))⟩,
 vM 30 66])))
def k90l1 : Cd :=
  .seq (.region [⟨none, some 26, .inl (.bin .lss (.s 25) (.s 24))⟩])
 (.seq (.cond (.s 26) (.skip)
 (.exit 0))
 (.seq (.block 1 (.seq (.region [vM 27 25,
 vM 6 27])
 (.seq (.region [vM 28 1,
 ⟨none, some 29, .inl (.len (.s 28))⟩,
 ⟨none, some 30, .inl (.mv (.c (.int .i64 0)))⟩])
 (.block 2 (.loop k90l0)))))
 (.region [⟨none, some 67, .inl (.bin .add (.s 25) (.c (.int .i64 1)))⟩,
 vM 25 67])))
def k90 : Cd :=
  .seq (.region [⟨none, some 2, .inl (.box 76 4 (.s 0))⟩,
 ⟨none, some 4, .inl (.mv (.c (.slice none 0 0)))⟩])
  (.scope (.seq (.region [⟨none, some 9, .inl (.bst 3 1 1 [(.int .i64 0)] [(0, (.c (.int .i64 (-1))))])⟩,
 vF 10 2 0,
 vF 11 10 0,
 vF 12 11 0,
 vL 13 1 12,
 ⟨none, some 14, .inl (.len (.s 13))⟩,
 ⟨none, some 15, .inr (.fn 115 [(.s 9), (.s 14)])⟩,
 vM 5 15])
 (.seq (.region [vM 16 5,
 vF 17 2 3,
 vL 18 1 17,
 vI 19 1 16 18,
 ⟨none, none, .inl (.st 1 (.s 19) (.c (.int .i64 0)))⟩])
 (.seq (.skip)
 (.seq (.seq (.region [vF 20 2 0,
 vF 21 20 0,
 vF 22 21 0,
 vL 23 1 22,
 ⟨none, some 24, .inl (.len (.s 23))⟩,
 ⟨none, some 25, .inl (.mv (.c (.int .i64 0)))⟩])
 (.block 0 (.loop k90l1)))
 (.seq (.region [vM 68 5,
 vM 4 68])
 (.ret)))))))
def k91l0 : Cd :=
  .seq (.region [⟨none, some 9, .inl (.bin .lss (.s 8) (.s 7))⟩])
 (.seq (.cond (.s 9) (.skip)
 (.exit 0))
 (.seq (.block 1 (.seq (.region [vM 10 8,
 vM 5 10])
 (.seq (.region [vM 11 1,
 vM 12 0,
 vM 13 5,
 vI 14 5 12 13,
 ⟨none, some 15, .inl (.ld true 5 (.s 14))⟩,
 ⟨none, some 16, .inr (.val false (.s 11) [(.s 15)])⟩])
 (.cond (.s 16) (.seq (.region [vM 17 5,
 vM 4 17])
 (.ret))
 (.skip)))))
 (.region [⟨none, some 18, .inl (.bin .add (.s 8) (.c (.int .i64 1)))⟩,
 vM 8 18])))
def k91 : Cd :=
  .seq (.region [⟨none, some 4, .inl (.mv (.c (.int .i64 0)))⟩])
 (.seq (.seq (.region [vM 6 0,
 ⟨none, some 7, .inl (.len (.s 6))⟩,
 ⟨none, some 8, .inl (.mv (.c (.int .i64 0)))⟩])
 (.block 0 (.loop k91l0)))
 (.seq (.region [⟨none, some 4, .inl (.mv (.c (.int .i64 (-1))))⟩])
 (.ret)))
def k92 : Cd :=
  .seq (.region [⟨none, some 4, .inl (.box 121 5 (.s 0))⟩,
 ⟨none, some 5, .inl (.mv (.c (.bool false)))⟩])
 (.seq (.draw [⟨vF 6 4 2, some [], [], 0, false⟩,
 ⟨vL 7 1 6, some [], [], 1, false⟩,
 ⟨vL 8 1 1, some [], [], 0, false⟩,
 ⟨⟨none, some 9, .inl (.bin .eql (.s 7) (.s 8))⟩, some [], [], 7, false⟩,
 ⟨vM 10 9, some [], [], 15, false⟩,
 ⟨⟨some (10, true), some 11, .inl (.ld false 1 (.s 2))⟩, some [], [], 31, false⟩,
 ⟨⟨some (10, true), some 12, .inl (.fa (.s 4) 3)⟩, some [], [], 31, false⟩,
 ⟨⟨some (10, true), some 13, .inl (.ld false 1 (.s 12))⟩, some [], [], 95, false⟩,
 ⟨⟨some (10, true), some 14, .inl (.ias 1 (.s 11) (.s 13))⟩, some [], [], 255, false⟩,
 ⟨⟨some (10, true), some 15, .inl (.ld false 1 (.s 14))⟩, some [], [], 511, false⟩,
 ⟨⟨some (10, true), some 16, .inl (.ld false 1 (.s 2))⟩, some [], [], 31, false⟩,
 ⟨⟨some (10, true), some 17, .inl (.ld false 1 (.s 1))⟩, some [], [], 31, false⟩,
 ⟨⟨some (10, true), some 18, .inl (.ias 1 (.s 16) (.s 17))⟩, some [], [], 3103, false⟩,
 ⟨⟨some (10, true), some 19, .inl (.ld false 1 (.s 18))⟩, some [], [], 7199, false⟩,
 ⟨⟨some (10, true), some 20, .inl (.bin .sub (.s 19) (.c (.int .i64 1)))⟩, some [], [], 15391, false⟩,
 ⟨⟨some (10, true), some 21, .inl (.bin .eql (.s 15) (.s 20))⟩, some [], [], 32767, false⟩,
 ⟨⟨none, some 22, .inl (.pick (.s 10) (.s 21) (.c (.bool false)))⟩, some [], [], 65535, false⟩,
 ⟨vM 23 22, some [], [], 131071, false⟩,
 ⟨⟨some (23, true), some 24, .inl (.ld true 4 (.s 3))⟩, some [], [], 262143, false⟩,
 ⟨⟨some (23, true), some 25, .inl (.ld true 5 (.s 4))⟩, some [], [], 262143, false⟩,
 ⟨⟨some (23, true), some 26, .inr (.fn 93 [(.s 24), (.s 25)])⟩, some [], [], 1048575, false⟩,
 ⟨⟨none, some 27, .inl (.pick (.s 23) (.s 26) (.c (.bool false)))⟩, some [], [], 2097151, false⟩,
 ⟨vM 5 27, some [], [], 4194303, false⟩])
 (.ret))
def k93 : Cd :=
  .seq (.region [⟨none, some 2, .inl (.box 76 4 (.s 0))⟩,
 ⟨none, some 3, .inl (.box 121 5 (.s 1))⟩,
 ⟨none, some 4, .inl (.mv (.c (.bool false)))⟩])
 (.seq (.draw [⟨vF 5 2 0, some [], [], 0, false⟩,
 ⟨vF 6 5 0, some [], [], 1, false⟩,
 ⟨vF 7 6 1, some [], [], 3, false⟩,
 ⟨vL 8 1 7, some [], [], 7, false⟩,
 ⟨vF 9 3 2, some [], [], 0, false⟩,
 ⟨vL 10 1 9, some [], [], 16, false⟩,
 ⟨vI 11 1 8 10, some [], [], 63, false⟩,
 ⟨vL 12 1 11, some [], [], 127, false⟩,
 ⟨vF 13 2 3, some [], [], 0, false⟩,
 ⟨vL 14 1 13, some [], [], 256, false⟩,
 ⟨vI 15 1 12 14, some [], [], 1023, false⟩,
 ⟨vL 16 1 15, some [], [], 2047, false⟩,
 ⟨vF 17 3 4, some [], [], 0, false⟩,
 ⟨vL 18 1 17, some [], [], 4096, false⟩,
 ⟨vF 19 2 0, some [], [], 0, false⟩,
 ⟨vF 20 19 0, some [], [], 16384, false⟩,
 ⟨vF 21 20 1, some [], [], 49152, false⟩,
 ⟨vL 22 1 21, some [], [], 114688, false⟩,
 ⟨vF 23 3 3, some [], [], 0, false⟩,
 ⟨vL 24 1 23, some [], [], 262144, false⟩,
 ⟨vI 25 1 22 24, some [], [], 1032192, false⟩,
 ⟨vL 26 1 25, some [], [], 2080768, false⟩,
 ⟨vF 27 2 3, some [], [], 0, false⟩,
 ⟨vL 28 1 27, some [], [], 4194304, false⟩,
 ⟨vI 29 1 26 28, some [], [], 16760832, false⟩,
 ⟨vL 30 1 29, some [], [], 33538048, false⟩,
 ⟨⟨none, some 31, .inl (.bin .add (.s 18) (.s 30))⟩, some [], [], 67104768, false⟩,
 ⟨⟨none, some 32, .inl (.bin .eql (.s 16) (.s 31))⟩, some [], [], 134217727, false⟩,
 ⟨vM 4 32, some [], [], 268435455, false⟩])
 (.ret))
def k96l0 : Cd :=
  .seq (.region [⟨none, some 11, .inl (.bin .lss (.s 10) (.s 9))⟩])
 (.seq (.cond (.s 11) (.skip)
 (.exit 0))
 (.seq (.block 1 (.seq (.region [vM 12 10,
 vM 4 12])
 (.seq (.region [vM 13 3,
 vM 14 4,
 ⟨none, some 15, .inl (.bst 3 1 1 [(.int .i64 0)] [(0, (.c (.int .i64 1000000000)))])⟩,
 vM 16 0,
 ⟨none, some 17, .inl (.len (.s 16))⟩,
 ⟨none, some 18, .inr (.fn 115 [(.s 15), (.s 17)])⟩,
 vI 19 1 13 14,
 ⟨none, none, .inl (.st 1 (.s 19) (.s 18))⟩])
 (.region [vM 20 3,
 vM 21 4,
 vI 22 1 20 21,
 vL 23 1 22,
 vM 24 4,
 vI 25 1 23 24,
 ⟨none, none, .inl (.st 1 (.s 25) (.c (.int .i64 0)))⟩]))))
 (.region [⟨none, some 26, .inl (.bin .add (.s 10) (.c (.int .i64 1)))⟩,
 vM 10 26])))
def k96 : Cd :=
  .seq (.region [⟨none, some 2, .inl (.alloc 74 [(.slice none 0 0), (.slice none 0 0)])⟩])
 (.seq (.region [vM 5 0,
 ⟨none, some 6, .inl (.len (.s 5))⟩,
 ⟨none, some 7, .inl (.mks 31 1 24 [(.slice none 0 0)] (.s 6) (.s 6))⟩,
 vM 3 7])
 (.seq (.seq (.region [vM 8 0,
 ⟨none, some 9, .inl (.len (.s 8))⟩,
 ⟨none, some 10, .inl (.mv (.c (.int .i64 0)))⟩])
 (.block 0 (.loop k96l0)))
 (.seq (.region [vM 27 0,
 vM 28 3,
 ⟨none, some 29, .inl (.bld [(.slice none 0 0), (.slice none 0 0)] [(0, 1, (.s 27)), (1, 1, (.s 28))])⟩,
 ⟨none, some 30, .inl (.bld [(.slice none 0 0), (.slice none 0 0)] [(0, 2, (.s 29))])⟩,
 ⟨none, none, .inl (.st 2 (.s 2) (.s 30))⟩])
 (.ret))))
def k98l0 : Cd :=
  .seq (.seq (.region [vM 13 7,
 vM 14 8,
 ⟨none, some 15, .inl (.bin .lss (.s 13) (.s 14))⟩])
 (.cond (.s 15) (.skip)
 (.exit 0)))
 (.block 1 (.seq (.region [vM 16 7,
 vM 17 8,
 ⟨none, some 18, .inl (.bin .add (.s 16) (.s 17))⟩,
 ⟨none, some 19, .inl (.cvi .u64 (.s 18))⟩,
 ⟨none, some 20, .inl (.bin .shr (.s 19) (.c (.int .u64 1)))⟩,
 ⟨none, some 21, .inl (.cvi .i64 (.s 20))⟩,
 vM 9 21])
 (.seq (.region [vM 22 0,
 vM 23 9,
 vI 24 1 22 23,
 vL 25 1 24,
 vM 26 1,
 ⟨none, some 27, .inr (.fn 117 [(.s 25), (.s 26)])⟩])
 (.cond (.s 27) (.region [vM 28 9,
 ⟨none, some 29, .inl (.bin .add (.s 28) (.c (.int .i64 1)))⟩,
 vM 7 29])
 (.region [vM 30 9,
 vM 8 30])))))
def k98 : Cd :=
  .seq (.region [⟨none, some 4, .inl (.mv (.c (.int .i64 0)))⟩,
 ⟨none, some 5, .inl (.mv (.c (.bool false)))⟩])
 (.seq (.region [vM 10 0,
 ⟨none, some 11, .inl (.len (.s 10))⟩,
 vM 6 11])
 (.seq (.region [vM 12 6,
 ⟨none, some 7, .inl (.mv (.c (.int .i64 0)))⟩,
 vM 8 12])
 (.seq (.block 0 (.loop k98l0))
 (.seq (.region [vM 31 7,
 vM 32 7,
 vM 33 6,
 ⟨none, some 34, .inl (.bin .lss (.s 32) (.s 33))⟩,
 vM 35 34,
 ⟨some (35, true), some 36, .inl (.mv (.s 0))⟩,
 ⟨some (35, true), some 37, .inl (.mv (.s 7))⟩,
 ⟨some (35, true), some 38, .inl (.ias 1 (.s 36) (.s 37))⟩,
 ⟨some (35, true), some 39, .inl (.ld false 1 (.s 38))⟩,
 ⟨some (35, true), some 40, .inl (.mv (.s 1))⟩,
 ⟨some (35, true), some 41, .inl (.bin .eql (.s 39) (.s 40))⟩,
 ⟨some (35, true), some 42, .inl (.mv (.s 41))⟩,
 ⟨some (42, false), some 43, .inl (.mv (.s 0))⟩,
 ⟨some (42, false), some 44, .inl (.mv (.s 7))⟩,
 ⟨some (42, false), some 45, .inl (.ias 1 (.s 43) (.s 44))⟩,
 ⟨some (42, false), some 46, .inl (.ld false 1 (.s 45))⟩,
 ⟨some (42, false), some 47, .inr (.fn 118 [(.s 46)])⟩,
 ⟨some (42, false), some 48, .inl (.mv (.s 47))⟩,
 ⟨some (48, true), some 49, .inl (.mv (.s 1))⟩,
 ⟨some (48, true), some 50, .inr (.fn 118 [(.s 49)])⟩,
 ⟨some (42, false), some 51, .inl (.pick (.s 48) (.s 50) (.c (.bool false)))⟩,
 ⟨some (35, true), some 52, .inl (.pick (.s 42) (.c (.bool true)) (.s 51))⟩,
 ⟨none, some 53, .inl (.pick (.s 35) (.s 52) (.c (.bool false)))⟩,
 vM 4 31,
 vM 5 53])
 (.ret)))))
def k101 : Cd :=
  .seq (.region [⟨none, some 1, .inl (.box 83 2 (.s 0))⟩,
 ⟨none, some 2, .inl (.mv (.c (.bool false)))⟩])
 (.seq (.region [⟨none, some 6, .inl (.ld true 2 (.s 1))⟩,
 ⟨none, some 7, .inr (.fn 119 [(.s 6)])⟩,
 vM 5 7,
 ⟨none, some 8, .inl (.ex (.s 5) 0)⟩,
 ⟨none, some 9, .inl (.ex (.s 5) 1)⟩,
 vM 3 8,
 vM 4 9])
 (.seq (.region [vM 10 4,
 ⟨none, some 11, .inl (.bin .neq (.s 10) (.c (.int .i64 (-1))))⟩,
 vM 2 11])
 (.ret)))
def k102l0 : Cd :=
  .seq (.region [⟨none, some 9, .inl (.bin .lss (.s 8) (.s 7))⟩])
 (.seq (.cond (.s 9) (.skip)
 (.exit 0))
 (.seq (.block 1 (.seq (.region [vI 10 5 6 8,
 ⟨none, some 11, .inl (.ld true 5 (.s 10))⟩,
 ⟨none, some 5, .inl (.alloc 42 [(.int .i64 0), (.int .i64 0), (.int .i64 0), (.int .i64 0), (.int .i64 0)])⟩,
 ⟨none, none, .inl (.st 5 (.s 5) (.s 11))⟩])
 (.seq (.region [vM 12 0,
 vF 13 5 0,
 vL 14 1 13,
 ⟨none, some 15, .inr (.fn 120 [(.s 12), (.s 14)])⟩])
 (.region [vM 16 0,
 vF 17 5 1,
 vL 18 1 17,
 ⟨none, some 19, .inr (.fn 120 [(.s 16), (.s 18)])⟩]))))
 (.region [⟨none, some 20, .inl (.bin .add (.s 8) (.c (.int .i64 1)))⟩,
 vM 8 20])))
def k102 : Cd :=
  .seq (.region [vM 6 1,
 ⟨none, some 7, .inl (.len (.s 6))⟩,
 ⟨none, some 8, .inl (.mv (.c (.int .i64 0)))⟩])
 (.block 0 (.loop k102l0))
def k103l0 : Cd :=
  .seq (.seq (.region [vM 14 5,
 ⟨none, some 15, .inl (.bin .neq (.s 14) (.c (.int .u64 0)))⟩])
 (.cond (.s 15) (.skip)
 (.exit 2)))
 (.seq (.block 3 (.region [vM 20 3,
 vM 21 4,
 ⟨none, some 22, .inl (.bin .mul (.c (.int .i64 64)) (.s 21))⟩,
 vM 23 5,
 ⟨none, some 24, .inr (.fn 121 [(.s 23)])⟩,
 ⟨none, some 25, .inl (.bin .add (.s 22) (.s 24))⟩,
 ⟨none, some 26, .inl (.bs 3 1 1 [(.int .i64 0)] [(0, (.s 25))])⟩,
 ⟨none, some 27, .inl (.app 3 1 8 (.s 20) (.s 26))⟩,
 vM 3 27]))
 (.region [vM 16 5,
 vM 17 5,
 ⟨none, some 18, .inl (.bin .sub (.s 17) (.c (.int .u64 1)))⟩,
 ⟨none, some 19, .inl (.bin .and (.s 16) (.s 18))⟩,
 vM 5 19]))
def k103l1 : Cd :=
  .seq (.region [⟨none, some 11, .inl (.bin .lss (.s 10) (.c (.int .i64 33)))⟩])
 (.seq (.cond (.s 11) (.skip)
 (.exit 0))
 (.seq (.block 1 (.seq (.region [vM 12 10,
 ⟨none, some 13, .inl (.ixa false 1 33 (.s 9) (.s 10))⟩,
 vM 4 12,
 vM 5 13])
 (.block 2 (.loop k103l0))))
 (.region [⟨none, some 28, .inl (.bin .add (.s 10) (.c (.int .i64 1)))⟩,
 vM 10 28])))
def k103 : Cd :=
  .seq (.region [⟨none, some 2, .inl (.mv (.c (.slice none 0 0)))⟩])
 (.seq (.region [⟨none, some 3, .inl (.mv (.c (.slice none 0 0)))⟩])
 (.seq (.seq (.region [vM 6 0,
 ⟨none, some 7, .inl (.nc (.s 6))⟩,
 vF 8 7 0,
 ⟨none, some 9, .inl (.ld true 33 (.s 8))⟩,
 ⟨none, some 10, .inl (.mv (.c (.int .i64 0)))⟩])
 (.block 0 (.loop k103l1)))
 (.seq (.region [vM 29 3,
 vM 2 29])
 (.ret))))
def k104 : Cd :=
  .seq (.region [vM 3 0,
 ⟨none, some 4, .inl (.len (.s 3))⟩,
 vM 2 4])
 (.region [vM 5 0,
 vM 6 2,
 vM 7 2,
 ⟨none, some 8, .inl (.cvi .u64 (.s 7))⟩,
 ⟨none, some 9, .inr (.fn 123 [(.s 8)])⟩,
 ⟨none, some 10, .inr (.fn 122 [(.s 5), (.c (.int .i64 0)), (.s 6), (.s 9)])⟩])
def k105l0 : Cd :=
  .seq (.seq (.region [vM 29 5,
 vM 30 4,
 ⟨none, some 31, .inl (.len (.s 30))⟩,
 ⟨none, some 32, .inl (.bin .lss (.s 29) (.s 31))⟩])
 (.cond (.s 32) (.skip)
 (.exit 2)))
 (.seq (.block 3 (.seq (.draw [⟨vM 35 4, some [], [], 0, false⟩,
 ⟨vM 36 5, some [], [], 0, false⟩,
 ⟨vI 37 1 35 36, some [], [], 3, false⟩,
 ⟨vL 38 1 37, some [], [], 7, false⟩,
 ⟨vM 39 4, some [], [], 0, false⟩,
 ⟨vM 40 5, some [], [], 0, false⟩,
 ⟨⟨none, some 41, .inl (.bin .sub (.s 40) (.c (.int .i64 1)))⟩, some [], [], 32, false⟩,
 ⟨vI 42 1 39 41, some [], [], 112, false⟩,
 ⟨vL 43 1 42, some [], [], 240, false⟩,
 ⟨⟨none, some 44, .inl (.bin .neq (.s 38) (.s 43))⟩, some [], [], 511, false⟩])
 (.cond (.s 44) (.seq (.region [vM 45 0,
 vM 46 3,
 vM 47 4,
 vM 48 5,
 vI 49 1 47 48,
 vL 50 1 49,
 vI 51 1 45 46,
 ⟨none, none, .inl (.st 1 (.s 51) (.s 50))⟩])
 (.region [vM 52 3,
 ⟨none, some 53, .inl (.bin .add (.s 52) (.c (.int .i64 1)))⟩,
 vM 3 53]))
 (.skip))))
 (.region [vM 33 5,
 ⟨none, some 34, .inl (.bin .add (.s 33) (.c (.int .i64 1)))⟩,
 vM 5 34]))
def k105l1 : Cd :=
  .seq (.seq (.region [vM 10 3,
 vM 11 0,
 ⟨none, some 12, .inl (.len (.s 11))⟩,
 ⟨none, some 13, .inl (.bin .lss (.s 10) (.s 12))⟩])
 (.cond (.s 13) (.skip)
 (.exit 0)))
 (.seq (.block 1 (.seq (.draw [⟨vM 16 0, some [], [], 0, false⟩,
 ⟨vM 17 3, some [], [], 0, false⟩,
 ⟨vI 18 1 16 17, some [], [], 3, false⟩,
 ⟨vL 19 1 18, some [], [], 7, false⟩,
 ⟨vM 20 0, some [], [], 0, false⟩,
 ⟨vM 21 3, some [], [], 0, false⟩,
 ⟨⟨none, some 22, .inl (.bin .sub (.s 21) (.c (.int .i64 1)))⟩, some [], [], 32, false⟩,
 ⟨vI 23 1 20 22, some [], [], 112, false⟩,
 ⟨vL 24 1 23, some [], [], 240, false⟩,
 ⟨⟨none, some 25, .inl (.bin .eql (.s 19) (.s 24))⟩, some [], [], 511, false⟩])
 (.cond (.s 25) (.seq (.region [vM 26 0,
 vM 27 3,
 ⟨none, some 28, .inl (.slc 1 (.s 26) (some (.s 27)) none none)⟩,
 vM 4 28])
 (.seq (.seq (.region [⟨none, some 5, .inl (.mv (.c (.int .i64 1)))⟩])
 (.block 2 (.loop k105l0)))
 (.seq (.region [vM 54 0,
 vM 55 3,
 ⟨none, some 56, .inl (.slc 1 (.s 54) (some (.s 55)) none none)⟩,
 ⟨none, none, .inl (.clr [(.int .i64 0)] (.s 56))⟩])
 (.seq (.region [vM 57 0,
 vM 58 3,
 ⟨none, some 59, .inl (.slc 1 (.s 57) none (some (.s 58)) none)⟩,
 vM 2 59])
 (.ret)))))
 (.skip))))
 (.region [vM 14 3,
 ⟨none, some 15, .inl (.bin .add (.s 14) (.c (.int .i64 1)))⟩,
 vM 3 15]))
def k105 : Cd :=
  .seq (.region [⟨none, some 2, .inl (.mv (.c (.slice none 0 0)))⟩])
 (.seq (.seq (.region [vM 6 0,
 ⟨none, some 7, .inl (.len (.s 6))⟩,
 ⟨none, some 8, .inl (.bin .lss (.s 7) (.c (.int .i64 2)))⟩])
 (.cond (.s 8) (.seq (.region [vM 9 0,
 vM 2 9])
 (.ret))
 (.skip)))
 (.seq (.seq (.region [⟨none, some 3, .inl (.mv (.c (.int .i64 1)))⟩])
 (.block 0 (.loop k105l1)))
 (.seq (.region [vM 60 0,
 vM 2 60])
 (.ret))))
def k106 : Cd :=
  .seq (.region [⟨none, some 3, .inl (.mv (.c (.bool false)))⟩])
 (.seq (.draw [⟨vF 4 1 1, some [], [], 0, false⟩,
 ⟨vL 5 1 4, some [], [], 1, false⟩,
 ⟨vF 6 1 0, some [], [], 0, false⟩,
 ⟨vL 7 1 6, some [], [], 4, false⟩,
 ⟨vM 8 0, some [], [], 0, false⟩,
 ⟨vI 9 5 7 8, some [], [], 28, false⟩,
 ⟨vF 10 9 4, some [], [], 60, false⟩,
 ⟨vL 11 1 10, some [], [], 124, false⟩,
 ⟨⟨none, some 12, .inl (.lk .int (.bool false) false (.s 5) (.s 11))⟩, some [], [], 255, false⟩,
 ⟨vM 3 12, some [], [], 511, false⟩])
 (.ret))
def k107l0 : Cd :=
  .seq (.seq (.region [vM 7 3,
 ⟨none, some 8, .inl (.bin .geq (.s 7) (.c (.int .i64 0)))⟩])
 (.cond (.s 8) (.skip)
 (.exit 0)))
 (.seq (.block 1 (.seq (.region [vM 11 0,
 vM 12 3,
 vL 13 1 1,
 vM 14 3,
 vI 15 1 13 14,
 vL 16 1 15,
 ⟨none, some 17, .inr (.val false (.s 11) [(.s 12), (.s 16)])⟩,
 ⟨none, some 18, .inl (.not (.s 17))⟩])
 (.cond (.s 18) (.ret)
 (.skip))))
 (.region [vM 9 3,
 ⟨none, some 10, .inl (.bin .sub (.s 9) (.c (.int .i64 1)))⟩,
 vM 3 10]))
def k107 : Cd :=
  .seq (.region [vL 4 1 1,
 ⟨none, some 5, .inl (.len (.s 4))⟩,
 ⟨none, some 6, .inl (.bin .sub (.s 5) (.c (.int .i64 1)))⟩,
 vM 3 6])
 (.block 0 (.loop k107l0))
def k108l0 : Cd :=
  .seq (.region [⟨none, some 9, .inl (.bin .lss (.s 8) (.s 7))⟩])
 (.seq (.cond (.s 9) (.skip)
 (.exit 0))
 (.seq (.block 1 (.seq (.region [vM 10 8,
 vM 5 10])
 (.seq (.region [vM 11 1,
 vM 12 0,
 vM 13 5,
 vI 14 1 12 13,
 vL 15 1 14,
 ⟨none, some 16, .inr (.val false (.s 11) [(.s 15)])⟩])
 (.cond (.s 16) (.seq (.region [vM 17 5,
 vM 4 17])
 (.ret))
 (.skip)))))
 (.region [⟨none, some 18, .inl (.bin .add (.s 8) (.c (.int .i64 1)))⟩,
 vM 8 18])))
def k108 : Cd :=
  .seq (.region [⟨none, some 4, .inl (.mv (.c (.int .i64 0)))⟩])
 (.seq (.seq (.region [vM 6 0,
 ⟨none, some 7, .inl (.len (.s 6))⟩,
 ⟨none, some 8, .inl (.mv (.c (.int .i64 0)))⟩])
 (.block 0 (.loop k108l0)))
 (.seq (.region [⟨none, some 4, .inl (.mv (.c (.int .i64 (-1))))⟩])
 (.ret)))
def k110l0 : Cd :=
  .seq (.region [⟨none, some 14, .inl (.bin .lss (.s 13) (.s 12))⟩])
 (.seq (.cond (.s 14) (.skip)
 (.exit 0))
 (.seq (.block 1 (.seq (.region [vM 15 13,
 vM 5 15])
 (.seq (.draw [⟨vM 16 0, some [], [], 0, false⟩,
 ⟨vM 17 5, some [], [], 0, false⟩,
 ⟨vI 18 1 16 17, some [], [], 3, false⟩,
 ⟨vL 19 1 18, some [], [], 7, false⟩,
 ⟨vM 20 1, some [], [], 0, false⟩,
 ⟨vM 21 5, some [], [], 0, false⟩,
 ⟨vI 22 1 20 21, some [], [], 48, false⟩,
 ⟨vL 23 1 22, some [], [], 112, false⟩,
 ⟨⟨none, some 24, .inl (.bin .neq (.s 19) (.s 23))⟩, some [], [], 255, false⟩])
 (.cond (.s 24) (.seq (.region [⟨none, some 4, .inl (.mv (.c (.bool false)))⟩])
 (.ret))
 (.skip)))))
 (.region [⟨none, some 25, .inl (.bin .add (.s 13) (.c (.int .i64 1)))⟩,
 vM 13 25])))
def k110 : Cd :=
  .seq (.region [⟨none, some 4, .inl (.mv (.c (.bool false)))⟩])
 (.seq (.seq (.region [vM 6 0,
 ⟨none, some 7, .inl (.len (.s 6))⟩,
 vM 8 1,
 ⟨none, some 9, .inl (.len (.s 8))⟩,
 ⟨none, some 10, .inl (.bin .neq (.s 7) (.s 9))⟩])
 (.cond (.s 10) (.seq (.region [⟨none, some 4, .inl (.mv (.c (.bool false)))⟩])
 (.ret))
 (.skip)))
 (.seq (.seq (.region [vM 11 0,
 ⟨none, some 12, .inl (.len (.s 11))⟩,
 ⟨none, some 13, .inl (.mv (.c (.int .i64 0)))⟩])
 (.block 0 (.loop k110l0)))
 (.seq (.region [⟨none, some 4, .inl (.mv (.c (.bool true)))⟩])
 (.ret))))
def k111l0 : Cd :=
  .seq (.region [⟨none, some 18, .inl (.bin .lss (.s 17) (.s 16))⟩])
 (.seq (.cond (.s 18) (.skip)
 (.exit 0))
 (.seq (.block 1 (.seq (.region [vM 19 17,
 vI 20 1 15 17,
 vL 21 1 20,
 vM 7 19,
 vM 8 21])
 (.seq (.region [vM 22 1,
 vM 23 7,
 vI 24 1 22 23,
 vL 25 1 24,
 vM 9 25])
 (.seq (.region [vM 26 2,
 vM 27 8,
 vM 28 9,
 ⟨none, some 29, .inr (.val false (.s 26) [(.s 27), (.s 28)])⟩,
 ⟨none, some 30, .inl (.not (.s 29))⟩])
 (.cond (.s 30) (.seq (.region [⟨none, some 6, .inl (.mv (.c (.bool false)))⟩])
 (.ret))
 (.skip))))))
 (.region [⟨none, some 31, .inl (.bin .add (.s 17) (.c (.int .i64 1)))⟩,
 vM 17 31])))
def k111 : Cd :=
  .seq (.region [⟨none, some 6, .inl (.mv (.c (.bool false)))⟩])
 (.seq (.seq (.region [vM 10 0,
 ⟨none, some 11, .inl (.len (.s 10))⟩,
 vM 12 1,
 ⟨none, some 13, .inl (.len (.s 12))⟩,
 ⟨none, some 14, .inl (.bin .neq (.s 11) (.s 13))⟩])
 (.cond (.s 14) (.seq (.region [⟨none, some 6, .inl (.mv (.c (.bool false)))⟩])
 (.ret))
 (.skip)))
 (.seq (.seq (.region [vM 15 0,
 ⟨none, some 16, .inl (.len (.s 15))⟩,
 ⟨none, some 17, .inl (.mv (.c (.int .i64 0)))⟩])
 (.block 0 (.loop k111l0)))
 (.seq (.region [⟨none, some 6, .inl (.mv (.c (.bool true)))⟩])
 (.ret))))
def k112l0 : Cd :=
  .seq (.region [⟨none, some 14, .inl (.bin .lss (.s 13) (.s 12))⟩])
 (.seq (.cond (.s 14) (.skip)
 (.exit 0))
 (.seq (.block 1 (.seq (.region [vM 15 13,
 vM 7 15])
 (.seq (.region [vF 16 2 3,
 vL 17 1 16,
 vM 18 7,
 vI 19 1 17 18,
 vL 20 1 19,
 vM 21 20,
 ⟨some (21, true), some 22, .inl (.fa (.s 2) 0)⟩,
 ⟨some (21, true), some 23, .inl (.ld true 2 (.s 22))⟩,
 ⟨some (21, true), some 24, .inl (.mv (.s 1))⟩,
 ⟨some (21, true), some 25, .inl (.mv (.s 7))⟩,
 ⟨some (21, true), some 26, .inr (.fn 49 [(.s 23), (.s 24), (.s 25)])⟩,
 ⟨some (21, true), some 27, .inl (.not (.s 26))⟩,
 ⟨none, some 28, .inl (.pick (.s 21) (.s 27) (.c (.bool false)))⟩])
 (.cond (.s 28) (.seq (.draw [⟨vM 29 4, some [], [], 0, false⟩,
 ⟨vF 30 2 2, some [], [], 0, false⟩,
 ⟨vL 31 1 30, some [], [], 2, false⟩,
 ⟨vM 32 7, some [], [], 0, false⟩,
 ⟨vI 33 1 31 32, some [], [], 14, false⟩,
 ⟨vL 34 1 33, some [], [], 30, false⟩,
 ⟨vF 35 2 0, some [], [], 0, false⟩,
 ⟨vF 36 35 0, some [], [], 64, false⟩,
 ⟨vF 37 36 1, some [], [], 192, false⟩,
 ⟨vL 38 1 37, some [], [], 448, false⟩,
 ⟨vM 39 1, some [], [], 0, false⟩,
 ⟨vI 40 1 38 39, some [], [], 1984, false⟩,
 ⟨vL 41 1 40, some [], [], 4032, false⟩,
 ⟨vM 42 7, some [], [], 0, false⟩,
 ⟨vI 43 1 41 42, some [], [], 16320, false⟩,
 ⟨vL 44 1 43, some [], [], 32704, false⟩,
 ⟨⟨none, some 45, .inl (.bin .sub (.s 34) (.s 44))⟩, some [], [], 65534, false⟩,
 ⟨⟨none, some 46, .inl (.mm true (.s 29) (.s 45))⟩, some [], [], 131071, false⟩,
 ⟨vM 4 46, some [], [], 262143, false⟩])
 (.seq (.draw [⟨vM 47 5, some [], [], 0, false⟩,
 ⟨vF 48 2 2, some [], [], 0, false⟩,
 ⟨vL 49 1 48, some [], [], 2, false⟩,
 ⟨vM 50 7, some [], [], 0, false⟩,
 ⟨vI 51 1 49 50, some [], [], 14, false⟩,
 ⟨vL 52 1 51, some [], [], 30, false⟩,
 ⟨vF 53 2 0, some [], [], 0, false⟩,
 ⟨vF 54 53 0, some [], [], 64, false⟩,
 ⟨vF 55 54 1, some [], [], 192, false⟩,
 ⟨vL 56 1 55, some [], [], 448, false⟩,
 ⟨vM 57 7, some [], [], 0, false⟩,
 ⟨vI 58 1 56 57, some [], [], 1984, false⟩,
 ⟨vL 59 1 58, some [], [], 4032, false⟩,
 ⟨vM 60 1, some [], [], 0, false⟩,
 ⟨vI 61 1 59 60, some [], [], 16320, false⟩,
 ⟨vL 62 1 61, some [], [], 32704, false⟩,
 ⟨⟨none, some 63, .inl (.bin .add (.s 52) (.s 62))⟩, some [], [], 65534, false⟩,
 ⟨⟨none, some 64, .inl (.mm false (.s 47) (.s 63))⟩, some [], [], 131071, false⟩,
 ⟨vM 5 64, some [], [], 262143, false⟩])
 (.region [⟨none, some 6, .inl (.mv (.c (.bool false)))⟩])))
 (.skip)))))
 (.region [⟨none, some 65, .inl (.bin .add (.s 13) (.c (.int .i64 1)))⟩,
 vM 13 65])))
def k112 : Cd :=
  .seq (.region [⟨none, some 2, .inl (.box 115 4 (.s 0))⟩,
 ⟨none, some 4, .inl (.mv (.c (.int .i64 0)))⟩,
 ⟨none, some 5, .inl (.mv (.c (.int .i64 0)))⟩,
 ⟨none, some 6, .inl (.mv (.c (.bool false)))⟩])
 (.seq (.region [⟨none, some 4, .inl (.mv (.c (.int .i64 (-1000000000))))⟩,
 ⟨none, some 5, .inl (.mv (.c (.int .i64 1000000000)))⟩,
 ⟨none, some 6, .inl (.mv (.c (.bool true)))⟩])
 (.seq (.seq (.region [vF 8 2 0,
 vF 9 8 0,
 vF 10 9 0,
 vL 11 1 10,
 ⟨none, some 12, .inl (.len (.s 11))⟩,
 ⟨none, some 13, .inl (.mv (.c (.int .i64 0)))⟩])
 (.block 0 (.loop k112l0)))
 (.seq (.region [vM 66 4,
 vM 67 5,
 vM 68 6,
 vM 4 66,
 vM 5 67,
 vM 6 68])
 (.ret))))
def k113 : Cd :=
  .seq (.region [⟨none, some 3, .inl (.box 115 4 (.s 0))⟩])
 (.draw [⟨vF 6 3 2, some [], [], 0, false⟩,
 ⟨vL 7 1 6, some [], [], 1, false⟩,
 ⟨vM 8 1, some [], [], 0, false⟩,
 ⟨vF 9 3 3, some [], [], 0, false⟩,
 ⟨vL 10 1 9, some [], [.keep 3], 8, false⟩,
 ⟨vM 11 1, some [], [], 0, false⟩,
 ⟨vM 12 2, some [], [], 0, false⟩,
 ⟨vI 13 1 7 8, some [], [], 71, false⟩,
 ⟨⟨none, none, .inl (.st 1 (.s 13) (.s 12))⟩, (some [.at 7]), [.av 3], 199, false⟩,
 ⟨vI 14 1 10 11, some [], [], 511, false⟩,
 ⟨⟨none, none, .inl (.st 1 (.s 14) (.c (.bool true)))⟩, (some [.at 10]), [], 1023, false⟩])
def k114 : Cd :=
  .seq (.region [⟨none, some 6, .inl (.mv (.c (.int .i64 0)))⟩])
 (.seq (.seq (.region [vM 8 0,
 ⟨none, some 9, .inl (.len (.s 8))⟩,
 ⟨none, some 10, .inl (.bin .eql (.s 9) (.c (.int .i64 0)))⟩,
 vM 11 10,
 ⟨some (11, false), some 12, .inl (.mv (.s 2))⟩,
 ⟨some (11, false), some 13, .inl (.bin .lss (.s 12) (.c (.int .i64 1)))⟩,
 ⟨none, some 14, .inl (.pick (.s 11) (.c (.bool true)) (.s 13))⟩])
 (.cond (.s 14) (.seq (.region [⟨none, some 6, .inl (.mv (.c (.int .i64 0)))⟩])
 (.ret))
 (.skip)))
 (.seq (.region [vM 15 0,
 vM 16 1,
 vM 17 0,
 ⟨none, some 18, .inl (.len (.s 17))⟩,
 ⟨none, some 19, .inl (.bin .rem (.s 16) (.s 18))⟩,
 vI 20 1 15 19,
 vL 21 1 20,
 vM 22 2,
 ⟨none, some 23, .inl (.bin .rem (.s 21) (.s 22))⟩,
 vM 7 23])
 (.seq (.seq (.region [vM 24 7,
 ⟨none, some 25, .inl (.bin .lss (.s 24) (.c (.int .i64 0)))⟩])
 (.cond (.s 25) (.region [vM 26 7,
 vM 27 2,
 ⟨none, some 28, .inl (.bin .add (.s 26) (.s 27))⟩,
 vM 7 28])
 (.skip)))
 (.seq (.region [vM 29 7,
 vM 6 29])
 (.ret)))))
def k115l0 : Cd :=
  .seq (.seq (.region [vM 34 8,
 vM 35 7,
 ⟨none, some 36, .inl (.len (.s 35))⟩,
 ⟨none, some 37, .inl (.bin .lss (.s 34) (.s 36))⟩])
 (.cond (.s 37) (.skip)
 (.exit 0)))
 (.block 1 (.draw [⟨vM 38 8, some [], [], 0, false⟩,
 ⟨vM 39 7, some [], [], 0, false⟩,
 ⟨vM 40 8, some [], [], 0, false⟩,
 ⟨⟨none, some 41, .inl (.slc 1 (.s 39) (some (.s 40)) none none)⟩, some [], [], 6, false⟩,
 ⟨vM 42 7, some [], [], 0, false⟩,
 ⟨vM 43 8, some [], [], 0, false⟩,
 ⟨⟨none, some 44, .inl (.slc 1 (.s 42) none (some (.s 43)) none)⟩, some [], [], 48, false⟩,
 ⟨⟨none, some 45, .inl (.cpy 1 (.s 41) (.s 44))⟩, (some [.at 7]), [], 126, false⟩,
 ⟨⟨none, some 46, .inl (.bin .add (.s 38) (.s 45))⟩, some [], [], 255, false⟩,
 ⟨vM 8 46, some [], [], 511, false⟩]))
def k115 : Cd :=
  .seq (.region [⟨none, some 4, .inl (.mv (.c (.slice none 0 0)))⟩])
 (.seq (.seq (.region [vM 9 1,
 ⟨none, some 10, .inl (.bin .lss (.s 9) (.c (.int .i64 0)))⟩])
 (.cond (.s 10) (.region [⟨none, some 11, .inl (.mki 9 (.c (.string ⟨#[99, 97, 110, 110, 111, 116, 32, 98, 101, 32, 110, 101, 103, 97, 116, 105, 118, 101]⟩)))⟩,
 ⟨none, none, .inr (.pan (.s 11))⟩])
 (.skip)))
 (.seq (.region [vM 13 0,
 ⟨none, some 14, .inl (.len (.s 13))⟩,
 ⟨none, some 15, .inl (.cvi .u64 (.s 14))⟩,
 vM 16 1,
 ⟨none, some 17, .inl (.cvi .u64 (.s 16))⟩,
 ⟨none, some 18, .inr (.fn 124 [(.s 15), (.s 17)])⟩,
 vM 12 18,
 ⟨none, some 19, .inl (.ex (.s 12) 0)⟩,
 ⟨none, some 20, .inl (.ex (.s 12) 1)⟩,
 vM 5 19,
 vM 6 20])
 (.seq (.seq (.region [vM 21 5,
 ⟨none, some 22, .inl (.bin .gtr (.s 21) (.c (.int .u64 0)))⟩,
 vM 23 22,
 ⟨some (23, false), some 24, .inl (.mv (.s 6))⟩,
 ⟨some (23, false), some 25, .inl (.bin .gtr (.s 24) (.c (.int .u64 9223372036854775807)))⟩,
 ⟨none, some 26, .inl (.pick (.s 23) (.c (.bool true)) (.s 25))⟩])
 (.cond (.s 26) (.region [⟨none, some 27, .inl (.mki 9 (.c (.string ⟨#[116, 104, 101, 32, 114, 101, 115, 117, 108, 116, 32, 111, 102, 32, 40, 108, 101, 110, 40, 120, 41, 32, 42, 32, 99, 111, 117, 110, 116, 41, 32, 111, 118, 101, 114, 102, 108, 111, 119, 115]⟩)))⟩,
 ⟨none, none, .inr (.pan (.s 27))⟩])
 (.skip)))
 (.seq (.region [vM 28 6,
 ⟨none, some 29, .inl (.cvi .i64 (.s 28))⟩,
 ⟨none, some 30, .inl (.mks 3 1 8 [(.int .i64 0)] (.s 29) (.s 29))⟩,
 vM 7 30])
 (.seq (.region [vM 31 7,
 vM 32 0,
 ⟨none, some 33, .inl (.cpy 1 (.s 31) (.s 32))⟩,
 vM 8 33])
 (.seq (.block 0 (.loop k115l0))
 (.seq (.region [vM 47 7,
 vM 4 47])
 (.ret))))))))
def k117 : Cd :=
  .seq (.region [⟨none, some 4, .inl (.mv (.c (.bool false)))⟩])
 (.seq (.region [vM 5 0,
 ⟨none, some 6, .inr (.fn 125 [(.s 5)])⟩,
 vM 7 6,
 ⟨some (7, true), some 8, .inl (.mv (.s 1))⟩,
 ⟨some (7, true), some 9, .inr (.fn 125 [(.s 8)])⟩,
 ⟨some (7, true), some 10, .inl (.not (.s 9))⟩,
 ⟨none, some 11, .inl (.pick (.s 7) (.s 10) (.c (.bool false)))⟩,
 vM 12 11,
 ⟨some (12, false), some 13, .inl (.mv (.s 0))⟩,
 ⟨some (12, false), some 14, .inl (.mv (.s 1))⟩,
 ⟨some (12, false), some 15, .inl (.bin .lss (.s 13) (.s 14))⟩,
 ⟨none, some 16, .inl (.pick (.s 12) (.c (.bool true)) (.s 15))⟩,
 vM 4 16])
 (.ret))
def k118 : Cd :=
  .seq (.region [⟨none, some 2, .inl (.mv (.c (.bool false)))⟩])
 (.seq (.region [vM 3 0,
 vM 4 0,
 ⟨none, some 5, .inl (.bin .neq (.s 3) (.s 4))⟩,
 vM 2 5])
 (.ret))
def k119l0 : Cd :=
  .seq (.region [⟨none, some 26, .inl (.bin .lss (.s 25) (.s 24))⟩])
 (.seq (.cond (.s 26) (.skip)
 (.exit 2))
 (.seq (.block 3 (.seq (.region [vM 27 25,
 vI 28 5 23 25,
 ⟨none, some 29, .inl (.ld true 5 (.s 28))⟩,
 ⟨none, some 6, .inl (.alloc 121 [(.int .i64 0), (.bool false), (.int .i64 0), (.int .i64 0), (.int .i64 0)])⟩,
 vM 5 27,
 ⟨none, none, .inl (.st 5 (.s 6) (.s 29))⟩])
 (.seq (.draw [⟨vM 30 4, some [], [], 0, false⟩,
 ⟨vF 31 6 2, some [], [], 0, false⟩,
 ⟨vL 32 1 31, some [], [], 2, false⟩,
 ⟨vI 33 1 30 32, some [], [], 7, false⟩,
 ⟨vL 34 1 33, some [], [], 15, false⟩,
 ⟨vF 35 6 4, some [], [], 0, false⟩,
 ⟨vL 36 1 35, some [], [], 32, false⟩,
 ⟨⟨none, some 37, .inl (.bin .add (.s 34) (.s 36))⟩, some [], [], 127, false⟩,
 ⟨vM 7 37, some [], [], 255, false⟩])
 (.seq (.region [vM 38 7,
 vM 39 4,
 vF 40 6 3,
 vL 41 1 40,
 vI 42 1 39 41,
 vL 43 1 42,
 ⟨none, some 44, .inl (.bin .lss (.s 38) (.s 43))⟩])
 (.cond (.s 44) (.draw [⟨vM 45 4, some [], [], 0, false⟩,
 ⟨vF 46 6 3, some [], [], 0, false⟩,
 ⟨vL 47 1 46, some [], [], 2, false⟩,
 ⟨vM 48 2, some [], [], 0, false⟩,
 ⟨vF 49 6 3, some [], [], 0, false⟩,
 ⟨vL 50 1 49, some [], [.at 4], 16, false⟩,
 ⟨vM 51 7, some [], [], 0, false⟩,
 ⟨vM 52 5, some [], [], 0, false⟩,
 ⟨vF 53 6 3, some [], [], 0, false⟩,
 ⟨vL 54 1 53, some [], [.at 4, .at 2], 256, false⟩,
 ⟨vI 55 1 45 47, some [], [], 71, false⟩,
 ⟨⟨none, none, .inl (.st 1 (.s 55) (.s 51))⟩, (some [.at 4]), [], 1095, false⟩,
 ⟨vI 56 1 48 50, some [], [], 3327, false⟩,
 ⟨⟨none, none, .inl (.st 1 (.s 56) (.s 52))⟩, (some [.at 2]), [], 7423, false⟩,
 ⟨vM 3 54, some [], [], 16383, false⟩])
 (.skip))))))
 (.region [⟨none, some 57, .inl (.bin .add (.s 25) (.c (.int .i64 1)))⟩,
 vM 25 57])))
def k119l1 : Cd :=
  .seq (.region [⟨none, some 21, .inl (.bin .lss (.s 20) (.s 19))⟩])
 (.seq (.cond (.s 21) (.skip)
 (.exit 0))
 (.seq (.block 1 (.seq (.region [⟨none, some 3, .inl (.mv (.c (.int .i64 (-1))))⟩])
 (.seq (.seq (.region [vF 22 1 1,
 vL 23 1 22,
 ⟨none, some 24, .inl (.len (.s 23))⟩,
 ⟨none, some 25, .inl (.mv (.c (.int .i64 0)))⟩])
 (.block 2 (.loop k119l0)))
 (.seq (.region [vM 58 3,
 ⟨none, some 59, .inl (.bin .eql (.s 58) (.c (.int .i64 (-1))))⟩])
 (.cond (.s 59) (.exit 0)
 (.skip))))))
 (.region [⟨none, some 60, .inl (.bin .add (.s 20) (.c (.int .i64 1)))⟩,
 vM 20 60])))
def k119 : Cd :=
  .seq (.region [⟨none, some 1, .inl (.box 83 2 (.s 0))⟩,
 ⟨none, some 2, .inl (.mv (.c (.slice none 0 0)))⟩,
 ⟨none, some 3, .inl (.mv (.c (.int .i64 0)))⟩])
 (.seq (.region [vF 8 1 0,
 vL 9 1 8,
 ⟨none, some 10, .inl (.len (.s 9))⟩,
 ⟨none, some 11, .inl (.mks 3 1 8 [(.int .i64 0)] (.s 10) (.s 10))⟩,
 vM 4 11])
 (.seq (.region [⟨none, some 12, .inl (.bst 3 1 1 [(.int .i64 0)] [(0, (.c (.int .i64 (-1))))])⟩,
 vF 13 1 0,
 vL 14 1 13,
 ⟨none, some 15, .inl (.len (.s 14))⟩,
 ⟨none, some 16, .inr (.fn 115 [(.s 12), (.s 15)])⟩,
 vM 2 16])
 (.seq (.region [⟨none, some 3, .inl (.mv (.c (.int .i64 (-1))))⟩])
 (.seq (.seq (.region [vF 17 1 0,
 vL 18 1 17,
 ⟨none, some 19, .inl (.len (.s 18))⟩,
 ⟨none, some 20, .inl (.mv (.c (.int .i64 0)))⟩])
 (.block 0 (.loop k119l1)))
 (.seq (.region [vM 61 2,
 vM 62 3,
 vM 2 61,
 vM 3 62])
 (.ret))))))
def k120 : Cd :=
  .draw [⟨vM 4 0, some [], [], 0, false⟩,
 ⟨vM 5 1, some [], [], 0, false⟩,
 ⟨⟨none, some 6, .inl (.bin .quo (.s 5) (.c (.int .i64 64)))⟩, some [], [], 2, false⟩,
 ⟨⟨none, some 7, .inl (.nc (.s 4))⟩, some [], [], 1, false⟩,
 ⟨vF 8 7 0, some [], [], 9, false⟩,
 ⟨⟨none, some 9, .inl (.iaa 33 1 (.s 8) (.s 6))⟩, some [], [], 31, false⟩,
 ⟨vL 10 1 9, some [], [], 63, false⟩,
 ⟨vM 11 1, some [], [], 0, false⟩,
 ⟨⟨none, some 12, .inl (.bin .rem (.s 11) (.c (.int .i64 64)))⟩, some [], [], 128, false⟩,
 ⟨⟨none, some 13, .inl (.bin .shl (.c (.int .u64 1)) (.s 12))⟩, some [], [], 384, false⟩,
 ⟨⟨none, some 14, .inl (.bin .or (.s 10) (.s 13))⟩, some [], [], 1023, false⟩,
 ⟨⟨none, some 15, .inl (.nc (.s 4))⟩, some [], [], 1, false⟩,
 ⟨vF 16 15 0, some [], [], 2049, false⟩,
 ⟨⟨none, some 17, .inl (.iaa 33 1 (.s 16) (.s 6))⟩, some [], [], 8191, false⟩,
 ⟨⟨none, none, .inl (.st 1 (.s 17) (.s 14))⟩, (some [.at 0]), [], 16383, false⟩]
def k121 : Cd :=
  .seq (.region [⟨none, some 2, .inl (.mv (.c (.int .i64 0)))⟩])
 (.seq (.seq (.region [vM 3 0,
 ⟨none, some 4, .inl (.bin .eql (.s 3) (.c (.int .u64 0)))⟩])
 (.cond (.s 4) (.seq (.region [⟨none, some 2, .inl (.mv (.c (.int .i64 64)))⟩])
 (.ret))
 (.skip)))
 (.seq (.region [vM 5 0,
 vM 6 0,
 ⟨none, some 7, .inl (.neg (.s 6))⟩,
 ⟨none, some 8, .inl (.bin .and (.s 5) (.s 7))⟩,
 ⟨none, some 9, .inl (.bin .mul (.s 8) (.c (.int .u64 285870213051353865)))⟩,
 ⟨none, some 10, .inl (.bin .shr (.s 9) (.c (.int .u64 58)))⟩,
 ⟨none, some 11, .inl (.iaa 64 1 (.g 0) (.s 10))⟩,
 vL 12 1 11,
 ⟨none, some 13, .inl (.cvi .i64 (.s 12))⟩,
 vM 2 13])
 (.ret)))
def k122l0 : Cd :=
  .block 1 (.seq (.region [vM 19 2,
 vM 20 1,
 ⟨none, some 21, .inl (.bin .sub (.s 19) (.s 20))⟩,
 vM 10 21])
 (.seq (.seq (.region [vM 22 10,
 ⟨none, some 23, .inl (.bin .leq (.s 22) (.c (.int .i64 12)))⟩])
 (.cond (.s 23) (.seq (.region [vM 24 0,
 vM 25 1,
 vM 26 2,
 ⟨none, some 27, .inr (.fn 126 [(.s 24), (.s 25), (.s 26)])⟩])
 (.ret))
 (.skip)))
 (.seq (.seq (.region [vM 28 3,
 ⟨none, some 29, .inl (.bin .eql (.s 28) (.c (.int .i64 0)))⟩])
 (.cond (.s 29) (.seq (.region [vM 30 0,
 vM 31 1,
 vM 32 2,
 ⟨none, some 33, .inr (.fn 127 [(.s 30), (.s 31), (.s 32)])⟩])
 (.ret))
 (.skip)))
 (.seq (.seq (.region [vM 34 8,
 ⟨none, some 35, .inl (.not (.s 34))⟩])
 (.cond (.s 35) (.seq (.region [vM 36 0,
 vM 37 1,
 vM 38 2,
 ⟨none, some 39, .inr (.fn 128 [(.s 36), (.s 37), (.s 38)])⟩])
 (.region [vM 40 3,
 ⟨none, some 41, .inl (.bin .sub (.s 40) (.c (.int .i64 1)))⟩,
 vM 3 41]))
 (.skip)))
 (.seq (.region [vM 43 0,
 vM 44 1,
 vM 45 2,
 ⟨none, some 46, .inr (.fn 129 [(.s 43), (.s 44), (.s 45)])⟩,
 vM 42 46,
 ⟨none, some 47, .inl (.ex (.s 42) 0)⟩,
 ⟨none, some 48, .inl (.ex (.s 42) 1)⟩,
 vM 11 47,
 vM 12 48])
 (.seq (.seq (.region [vM 49 12,
 ⟨none, some 50, .inl (.bin .eql (.s 49) (.c (.int .i64 2)))⟩])
 (.cond (.s 50) (.seq (.region [vM 51 0,
 vM 52 1,
 vM 53 2,
 ⟨none, some 54, .inr (.fn 130 [(.s 51), (.s 52), (.s 53)])⟩])
 (.seq (.region [vM 55 2,
 ⟨none, some 56, .inl (.bin .sub (.s 55) (.c (.int .i64 1)))⟩,
 vM 57 11,
 vM 58 1,
 ⟨none, some 59, .inl (.bin .sub (.s 57) (.s 58))⟩,
 ⟨none, some 60, .inl (.bin .sub (.s 56) (.s 59))⟩,
 vM 11 60])
 (.region [⟨none, some 12, .inl (.mv (.c (.int .i64 1)))⟩])))
 (.skip)))
 (.seq (.seq (.region [vM 61 8,
 vM 62 61,
 ⟨some (62, true), some 63, .inl (.mv (.s 9))⟩,
 ⟨none, some 64, .inl (.pick (.s 62) (.s 63) (.c (.bool false)))⟩,
 vM 65 64,
 ⟨some (65, true), some 66, .inl (.mv (.s 12))⟩,
 ⟨some (65, true), some 67, .inl (.bin .eql (.s 66) (.c (.int .i64 1)))⟩,
 ⟨none, some 68, .inl (.pick (.s 65) (.s 67) (.c (.bool false)))⟩])
 (.cond (.s 68) (.seq (.region [vM 69 0,
 vM 70 1,
 vM 71 2,
 ⟨none, some 72, .inr (.fn 131 [(.s 69), (.s 70), (.s 71)])⟩])
 (.cond (.s 72) (.ret)
 (.skip)))
 (.skip)))
 (.seq (.seq (.draw [⟨vM 73 1, some [], [], 0, false⟩,
 ⟨⟨none, some 74, .inl (.bin .gtr (.s 73) (.c (.int .i64 0)))⟩, some [], [], 1, false⟩,
 ⟨vM 75 74, some [], [], 3, false⟩,
 ⟨⟨some (75, true), some 76, .inl (.mv (.s 0))⟩, some [], [], 7, false⟩,
 ⟨⟨some (75, true), some 77, .inl (.mv (.s 1))⟩, some [], [], 7, false⟩,
 ⟨⟨some (75, true), some 78, .inl (.bin .sub (.s 77) (.c (.int .i64 1)))⟩, some [], [], 23, false⟩,
 ⟨⟨some (75, true), some 79, .inl (.ias 1 (.s 76) (.s 78))⟩, some [], [], 63, false⟩,
 ⟨⟨some (75, true), some 80, .inl (.ld false 1 (.s 79))⟩, some [], [], 127, false⟩,
 ⟨⟨some (75, true), some 81, .inl (.mv (.s 0))⟩, some [], [], 7, false⟩,
 ⟨⟨some (75, true), some 82, .inl (.mv (.s 11))⟩, some [], [], 7, false⟩,
 ⟨⟨some (75, true), some 83, .inl (.ias 1 (.s 81) (.s 82))⟩, some [], [], 775, false⟩,
 ⟨⟨some (75, true), some 84, .inl (.ld false 1 (.s 83))⟩, some [], [], 1799, false⟩,
 ⟨⟨some (75, true), some 85, .inr (.fn 117 [(.s 80), (.s 84)])⟩, some [], [], 4095, false⟩,
 ⟨⟨some (75, true), some 86, .inl (.not (.s 85))⟩, some [], [], 8191, false⟩,
 ⟨⟨none, some 87, .inl (.pick (.s 75) (.s 86) (.c (.bool false)))⟩, some [], [], 16383, false⟩])
 (.cond (.s 87) (.seq (.region [vM 88 0,
 vM 89 1,
 vM 90 2,
 vM 91 11,
 ⟨none, some 92, .inr (.fn 132 [(.s 88), (.s 89), (.s 90), (.s 91)])⟩,
 vM 13 92])
 (.seq (.region [vM 93 13,
 vM 1 93])
 (.exit 1)))
 (.skip)))
 (.seq (.region [vM 95 0,
 vM 96 1,
 vM 97 2,
 vM 98 11,
 ⟨none, some 99, .inr (.fn 133 [(.s 95), (.s 96), (.s 97), (.s 98)])⟩,
 vM 94 99,
 ⟨none, some 100, .inl (.ex (.s 94) 0)⟩,
 ⟨none, some 101, .inl (.ex (.s 94) 1)⟩,
 vM 14 100,
 vM 15 101])
 (.seq (.region [vM 102 15,
 vM 9 102])
 (.seq (.region [vM 103 14,
 vM 104 1,
 ⟨none, some 105, .inl (.bin .sub (.s 103) (.s 104))⟩,
 vM 106 2,
 vM 107 14,
 ⟨none, some 108, .inl (.bin .sub (.s 106) (.s 107))⟩,
 vM 16 105,
 vM 17 108])
 (.seq (.region [vM 109 10,
 ⟨none, some 110, .inl (.bin .quo (.s 109) (.c (.int .i64 8)))⟩,
 vM 18 110])
 (.seq (.region [vM 111 16,
 vM 112 17,
 ⟨none, some 113, .inl (.bin .lss (.s 111) (.s 112))⟩])
 (.cond (.s 113) (.seq (.region [vM 114 16,
 vM 115 18,
 ⟨none, some 116, .inl (.bin .geq (.s 114) (.s 115))⟩,
 vM 8 116])
 (.seq (.region [vM 117 0,
 vM 118 1,
 vM 119 14,
 vM 120 3,
 ⟨none, some 121, .inr (.fn 122 [(.s 117), (.s 118), (.s 119), (.s 120)])⟩])
 (.region [vM 122 14,
 ⟨none, some 123, .inl (.bin .add (.s 122) (.c (.int .i64 1)))⟩,
 vM 1 123])))
 (.seq (.region [vM 124 17,
 vM 125 18,
 ⟨none, some 126, .inl (.bin .geq (.s 124) (.s 125))⟩,
 vM 8 126])
 (.seq (.region [vM 127 0,
 vM 128 14,
 ⟨none, some 129, .inl (.bin .add (.s 128) (.c (.int .i64 1)))⟩,
 vM 130 2,
 vM 131 3,
 ⟨none, some 132, .inr (.fn 122 [(.s 127), (.s 129), (.s 130), (.s 131)])⟩])
 (.region [vM 133 14,
 vM 2 133])))))))))))))))))
def k122 : Cd :=
  .seq (.region [⟨none, some 8, .inl (.mv (.c (.bool true)))⟩])
 (.seq (.region [⟨none, some 9, .inl (.mv (.c (.bool true)))⟩])
 (.block 0 (.loop k122l0)))
def k123 : Cd :=
  .seq (.region [⟨none, some 2, .inl (.mv (.c (.int .i64 0)))⟩])
 (.seq (.cond (.c (.bool false)) (.seq (.region [vM 3 0,
 ⟨none, some 4, .inl (.cvi .u32 (.s 3))⟩,
 ⟨none, some 5, .inr (.fn 134 [(.s 4)])⟩,
 vM 2 5])
 (.ret))
 (.skip))
 (.seq (.region [vM 6 0,
 ⟨none, some 7, .inr (.fn 135 [(.s 6)])⟩,
 vM 2 7])
 (.ret)))
def k124 : Cd :=
  .seq (.region [⟨none, some 4, .inl (.mv (.c (.int .u64 0)))⟩,
 ⟨none, some 5, .inl (.mv (.c (.int .u64 0)))⟩])
 (.seq (.cond (.c (.bool false)) (.seq (.region [vM 11 0,
 ⟨none, some 12, .inl (.cvi .u32 (.s 11))⟩,
 vM 13 1,
 ⟨none, some 14, .inl (.cvi .u32 (.s 13))⟩,
 ⟨none, some 15, .inr (.fn 136 [(.s 12), (.s 14)])⟩,
 vM 10 15,
 ⟨none, some 16, .inl (.ex (.s 10) 0)⟩,
 ⟨none, some 17, .inl (.ex (.s 10) 1)⟩,
 vM 6 16,
 vM 7 17])
 (.seq (.region [vM 18 6,
 ⟨none, some 19, .inl (.cvi .u64 (.s 18))⟩,
 vM 20 7,
 ⟨none, some 21, .inl (.cvi .u64 (.s 20))⟩,
 vM 4 19,
 vM 5 21])
 (.ret)))
 (.skip))
 (.seq (.region [vM 23 0,
 vM 24 1,
 ⟨none, some 25, .inr (.fn 137 [(.s 23), (.s 24)])⟩,
 vM 22 25,
 ⟨none, some 26, .inl (.ex (.s 22) 0)⟩,
 ⟨none, some 27, .inl (.ex (.s 22) 1)⟩,
 vM 8 26,
 vM 9 27])
 (.seq (.region [vM 28 8,
 vM 29 9,
 vM 4 28,
 vM 5 29])
 (.ret))))
def k125 : Cd :=
  .seq (.region [⟨none, some 2, .inl (.mv (.c (.bool false)))⟩])
 (.seq (.region [vM 3 0,
 vM 4 0,
 ⟨none, some 5, .inl (.bin .neq (.s 3) (.s 4))⟩,
 vM 2 5])
 (.ret))
def k126l0 : Cd :=
  .seq (.seq (.draw [⟨vM 16 7, some [], [], 0, false⟩,
 ⟨vM 17 1, some [], [], 0, false⟩,
 ⟨⟨none, some 18, .inl (.bin .gtr (.s 16) (.s 17))⟩, some [], [], 3, false⟩,
 ⟨vM 19 18, some [], [], 7, false⟩,
 ⟨⟨some (19, true), some 20, .inl (.mv (.s 0))⟩, some [], [], 15, false⟩,
 ⟨⟨some (19, true), some 21, .inl (.mv (.s 7))⟩, some [], [], 15, false⟩,
 ⟨⟨some (19, true), some 22, .inl (.ias 1 (.s 20) (.s 21))⟩, some [], [], 63, false⟩,
 ⟨⟨some (19, true), some 23, .inl (.ld false 1 (.s 22))⟩, some [], [], 127, false⟩,
 ⟨⟨some (19, true), some 24, .inl (.mv (.s 0))⟩, some [], [], 15, false⟩,
 ⟨⟨some (19, true), some 25, .inl (.mv (.s 7))⟩, some [], [], 15, false⟩,
 ⟨⟨some (19, true), some 26, .inl (.bin .sub (.s 25) (.c (.int .i64 1)))⟩, some [], [], 527, false⟩,
 ⟨⟨some (19, true), some 27, .inl (.ias 1 (.s 24) (.s 26))⟩, some [], [], 1807, false⟩,
 ⟨⟨some (19, true), some 28, .inl (.ld false 1 (.s 27))⟩, some [], [], 3855, false⟩,
 ⟨⟨some (19, true), some 29, .inr (.fn 117 [(.s 23), (.s 28)])⟩, some [], [], 8191, false⟩,
 ⟨⟨none, some 30, .inl (.pick (.s 19) (.s 29) (.c (.bool false)))⟩, some [], [], 16383, false⟩])
 (.cond (.s 30) (.skip)
 (.exit 2)))
 (.seq (.block 3 (.draw [⟨vM 33 0, some [], [], 0, false⟩,
 ⟨vM 34 7, some [], [], 0, false⟩,
 ⟨vM 35 0, some [], [], 0, false⟩,
 ⟨vM 36 7, some [], [], 0, false⟩,
 ⟨⟨none, some 37, .inl (.bin .sub (.s 36) (.c (.int .i64 1)))⟩, some [], [], 8, false⟩,
 ⟨vM 38 0, some [], [], 0, false⟩,
 ⟨vM 39 7, some [], [], 0, false⟩,
 ⟨⟨none, some 40, .inl (.bin .sub (.s 39) (.c (.int .i64 1)))⟩, some [], [], 64, false⟩,
 ⟨vI 41 1 38 40, some [], [], 224, false⟩,
 ⟨vL 42 1 41, some [], [], 480, false⟩,
 ⟨vM 43 0, some [], [], 0, false⟩,
 ⟨vM 44 7, some [], [], 0, false⟩,
 ⟨vI 45 1 43 44, some [], [], 3072, false⟩,
 ⟨vL 46 1 45, some [], [], 7168, false⟩,
 ⟨vI 47 1 33 34, some [], [], 16355, false⟩,
 ⟨⟨none, none, .inl (.st 1 (.s 47) (.s 42))⟩, (some [.at 0]), [], 32739, false⟩,
 ⟨vI 48 1 35 37, some [], [], 65535, false⟩,
 ⟨⟨none, none, .inl (.st 1 (.s 48) (.s 46))⟩, (some [.at 0]), [], 131071, false⟩]))
 (.region [vM 31 7,
 ⟨none, some 32, .inl (.bin .sub (.s 31) (.c (.int .i64 1)))⟩,
 vM 7 32]))
def k126l1 : Cd :=
  .seq (.seq (.region [vM 10 6,
 vM 11 2,
 ⟨none, some 12, .inl (.bin .lss (.s 10) (.s 11))⟩])
 (.cond (.s 12) (.skip)
 (.exit 0)))
 (.seq (.block 1 (.seq (.region [vM 15 6,
 vM 7 15])
 (.block 2 (.loop k126l0))))
 (.region [vM 13 6,
 ⟨none, some 14, .inl (.bin .add (.s 13) (.c (.int .i64 1)))⟩,
 vM 6 14]))
def k126 : Cd :=
  .seq (.region [vM 8 1,
 ⟨none, some 9, .inl (.bin .add (.s 8) (.c (.int .i64 1)))⟩,
 vM 6 9])
 (.block 0 (.loop k126l1))
def k127l0 : Cd :=
  .seq (.seq (.region [vM 18 9,
 ⟨none, some 19, .inl (.bin .geq (.s 18) (.c (.int .i64 0)))⟩])
 (.cond (.s 19) (.skip)
 (.exit 0)))
 (.seq (.block 1 (.region [vM 22 0,
 vM 23 9,
 vM 24 8,
 vM 25 6,
 ⟨none, some 26, .inr (.fn 138 [(.s 22), (.s 23), (.s 24), (.s 25)])⟩]))
 (.region [vM 20 9,
 ⟨none, some 21, .inl (.bin .sub (.s 20) (.c (.int .i64 1)))⟩,
 vM 9 21]))
def k127l1 : Cd :=
  .seq (.seq (.region [vM 29 10,
 ⟨none, some 30, .inl (.bin .geq (.s 29) (.c (.int .i64 0)))⟩])
 (.cond (.s 30) (.skip)
 (.exit 2)))
 (.seq (.block 3 (.seq (.draw [⟨vM 33 0, some [], [], 0, false⟩,
 ⟨vM 34 6, some [], [], 0, false⟩,
 ⟨vM 35 0, some [], [], 0, false⟩,
 ⟨vM 36 6, some [], [], 0, false⟩,
 ⟨vM 37 10, some [], [], 0, false⟩,
 ⟨⟨none, some 38, .inl (.bin .add (.s 36) (.s 37))⟩, some [], [], 24, false⟩,
 ⟨vM 39 0, some [], [], 0, false⟩,
 ⟨vM 40 6, some [], [], 0, false⟩,
 ⟨vM 41 10, some [], [], 0, false⟩,
 ⟨⟨none, some 42, .inl (.bin .add (.s 40) (.s 41))⟩, some [], [], 384, false⟩,
 ⟨vI 43 1 39 42, some [], [], 960, false⟩,
 ⟨vL 44 1 43, some [], [], 1984, false⟩,
 ⟨vM 45 0, some [], [], 0, false⟩,
 ⟨vM 46 6, some [], [], 0, false⟩,
 ⟨vI 47 1 45 46, some [], [], 12288, false⟩,
 ⟨vL 48 1 47, some [], [], 28672, false⟩,
 ⟨vI 49 1 33 34, some [], [], 65475, false⟩,
 ⟨⟨none, none, .inl (.st 1 (.s 49) (.s 44))⟩, (some [.at 0]), [], 131011, false⟩,
 ⟨vI 50 1 35 38, some [], [], 262143, false⟩,
 ⟨⟨none, none, .inl (.st 1 (.s 50) (.s 48))⟩, (some [.at 0]), [], 524287, false⟩])
 (.region [vM 51 0,
 vM 52 7,
 vM 53 10,
 vM 54 6,
 ⟨none, some 55, .inr (.fn 138 [(.s 51), (.s 52), (.s 53), (.s 54)])⟩])))
 (.region [vM 31 10,
 ⟨none, some 32, .inl (.bin .sub (.s 31) (.c (.int .i64 1)))⟩,
 vM 10 32]))
def k127 : Cd :=
  .seq (.region [vM 11 1,
 vM 6 11])
 (.seq (.region [⟨none, some 7, .inl (.mv (.c (.int .i64 0)))⟩])
 (.seq (.region [vM 12 2,
 vM 13 1,
 ⟨none, some 14, .inl (.bin .sub (.s 12) (.s 13))⟩,
 vM 8 14])
 (.seq (.seq (.region [vM 15 8,
 ⟨none, some 16, .inl (.bin .sub (.s 15) (.c (.int .i64 1)))⟩,
 ⟨none, some 17, .inl (.bin .quo (.s 16) (.c (.int .i64 2)))⟩,
 vM 9 17])
 (.block 0 (.loop k127l0)))
 (.seq (.region [vM 27 8,
 ⟨none, some 28, .inl (.bin .sub (.s 27) (.c (.int .i64 1)))⟩,
 vM 10 28])
 (.block 2 (.loop k127l1))))))
end Go.Proofs.YtlkpikdfbodhoaaDoor
