/- The small code of the functions of this program, as its own reader reads them: part A. -/
import Derived.Test.YtnfhgnbniajhoaaDoorEmU
namespace Go.Proofs.YtnfhgnbniajhoaaDoor
open Go Go.Em
set_option maxRecDepth 100000
def k3l0 : Cd :=
  .seq (.seq (.region [⟨none, (some 32), .inl (.mv (.s 8))⟩,
    ⟨none, (some 33), .inl (.bin .add (.s 32) (.c (.int .i64 1)))⟩,
    ⟨none, (some 34), .inl (.mv (.s 0))⟩,
    ⟨none, (some 35), .inl (.len (.s 34))⟩,
    ⟨none, (some 36), .inl (.bin .lss (.s 33) (.s 35))⟩,
    ⟨none, (some 37), .inl (.mv (.s 36))⟩,
    ⟨(some (37, true)), (some 38), .inl (.mv (.s 8))⟩,
    ⟨(some (37, true)), (some 39), .inl (.bin .lss (.s 38) (.c (.int .i64 20)))⟩,
    ⟨none, (some 40), .inl (.pick (.s 37) (.s 39) (.c (.bool false)))⟩])
  (.cond (.s 40) (.skip)
  (.exit 0)))
  (.seq (.block 1 (.seq (.draw [⟨⟨none, (some 43), .inl (.mv (.s 0))⟩, (some []), [], 0, false⟩,
    ⟨⟨none, (some 44), .inl (.mv (.s 8))⟩, (some []), [], 0, false⟩,
    ⟨⟨none, (some 45), .inl (.ias 8 (.s 43) (.s 44))⟩, (some []), [], 3, false⟩,
    ⟨⟨none, (some 46), .inl (.ld true 8 (.s 45))⟩, (some []), [], 7, false⟩,
    ⟨⟨none, (some 47), .inl (.mv (.s 0))⟩, (some []), [], 0, false⟩,
    ⟨⟨none, (some 48), .inl (.mv (.s 8))⟩, (some []), [], 0, false⟩,
    ⟨⟨none, (some 49), .inl (.bin .add (.s 48) (.c (.int .i64 1)))⟩, (some []), [], 32, false⟩,
    ⟨⟨none, (some 50), .inl (.ias 8 (.s 47) (.s 49))⟩, (some []), [], 112, false⟩,
    ⟨⟨none, (some 51), .inl (.ld true 8 (.s 50))⟩, (some []), [], 240, false⟩,
    ⟨⟨none, (some 52), .inr (.fn 9 [(.s 46), (.s 51)])⟩, (some []), [], 511, false⟩,
    ⟨⟨none, (some 53), .inl (.mv (.s 0))⟩, (some []), [], 0, false⟩,
    ⟨⟨none, (some 54), .inl (.mv (.s 8))⟩, (some []), [], 0, false⟩,
    ⟨⟨none, (some 55), .inl (.ias 8 (.s 53) (.s 54))⟩, (some []), [], 3072, false⟩,
    ⟨⟨none, (some 56), .inl (.ld true 8 (.s 55))⟩, (some []), [], 7168, false⟩,
    ⟨⟨none, (some 57), .inl (.mv (.s 0))⟩, (some []), [], 0, false⟩,
    ⟨⟨none, (some 58), .inl (.mv (.s 8))⟩, (some []), [], 0, false⟩,
    ⟨⟨none, (some 59), .inl (.bin .add (.s 58) (.c (.int .i64 1)))⟩, (some []), [], 32768, false⟩,
    ⟨⟨none, (some 60), .inl (.ias 8 (.s 57) (.s 59))⟩, (some []), [], 114688, false⟩,
    ⟨⟨none, (some 61), .inl (.ld true 8 (.s 60))⟩, (some []), [], 245760, false⟩,
    ⟨⟨none, (some 62), .inr (.fn 10 [(.s 56), (.s 61)])⟩, (some []), [], 524287, false⟩,
    ⟨⟨none, (some 63), .inl (.eq true .bool (.s 52) (.s 62))⟩, (some []), [], 1048575, false⟩])
  (.cond (.s 63) (.seq (.region [⟨none, (some 2), .inl (.mv (.c (.bool false)))⟩])
   (.ret))
  (.skip))))
  (.region [⟨none, (some 41), .inl (.mv (.s 8))⟩,
    ⟨none, (some 42), .inl (.bin .add (.s 41) (.c (.int .i64 1)))⟩,
    ⟨none, (some 8), .inl (.mv (.s 42))⟩]))
/-- gyttja/gyttjalaw04.AshCommons -/
def k3 : Cd :=
  .seq (.region [⟨none, (some 2), .inl (.mv (.c (.bool false)))⟩])
  (.seq (.region [⟨none, (some 9), .inr (.fn 6 [])⟩,
    ⟨none, (some 3), .inl (.mv (.s 9))⟩])
  (.seq (.region [⟨none, (some 11), .inl (.mv (.s 0))⟩,
    ⟨none, (some 12), .inr (.fn 7 [(.s 11)])⟩,
    ⟨none, (some 10), .inl (.mv (.s 12))⟩,
    ⟨none, (some 13), .inl (.ex (.s 10) 0)⟩,
    ⟨none, (some 14), .inl (.ex (.s 10) 1)⟩,
    ⟨none, (some 4), .inl (.alloc 26 [(.int .i64 0), (.int .i64 0), (.int .i64 0), (.int .i64 0), (.int .i64 0), (.int .i64 0)])⟩,
    ⟨none, none, .inl (.st 6 (.s 4) (.s 13))⟩,
    ⟨none, (some 5), .inl (.mv (.s 14))⟩])
  (.seq (.region [⟨none, (some 16), .inl (.mv (.s 0))⟩,
    ⟨none, (some 17), .inr (.fn 8 [(.s 16)])⟩,
    ⟨none, (some 15), .inl (.mv (.s 17))⟩,
    ⟨none, (some 18), .inl (.ex (.s 15) 0)⟩,
    ⟨none, (some 19), .inl (.ex (.s 15) 1)⟩,
    ⟨none, (some 6), .inl (.alloc 26 [(.int .i64 0), (.int .i64 0), (.int .i64 0), (.int .i64 0), (.int .i64 0), (.int .i64 0)])⟩,
    ⟨none, none, .inl (.st 6 (.s 6) (.s 18))⟩,
    ⟨none, (some 7), .inl (.mv (.s 19))⟩])
  (.seq (.seq (.region [⟨none, (some 20), .inl (.mv (.s 3))⟩,
    ⟨none, (some 21), .inl (.not (.s 20))⟩,
    ⟨none, (some 22), .inl (.mv (.s 21))⟩,
    ⟨(some (22, false)), (some 23), .inl (.ld true 6 (.s 4))⟩,
    ⟨(some (22, false)), (some 24), .inl (.ld true 6 (.s 6))⟩,
    ⟨(some (22, false)), (some 25), .inl (.eq true (.cells [.int, .int, .int, .int, .int, .int]) (.s 23) (.s 24))⟩,
    ⟨none, (some 26), .inl (.pick (.s 22) (.c (.bool true)) (.s 25))⟩,
    ⟨none, (some 27), .inl (.mv (.s 26))⟩,
    ⟨(some (27, false)), (some 28), .inl (.mv (.s 5))⟩,
    ⟨(some (27, false)), (some 29), .inl (.mv (.s 7))⟩,
    ⟨(some (27, false)), (some 30), .inl (.eq true .bool (.s 28) (.s 29))⟩,
    ⟨none, (some 31), .inl (.pick (.s 27) (.c (.bool true)) (.s 30))⟩])
  (.cond (.s 31) (.seq (.region [⟨none, (some 2), .inl (.mv (.c (.bool false)))⟩])
   (.ret))
  (.skip)))
  (.seq (.seq (.region [⟨none, (some 8), .inl (.mv (.c (.int .i64 0)))⟩])
  (.block 0 (.loop k3l0)))
  (.seq (.region [⟨none, (some 2), .inl (.mv (.c (.bool true)))⟩])
  (.ret)))))))
/-- gyttja/gyttjalaw04.sane -/
def k6 : Cd :=
  .seq (.region [⟨none, (some 0), .inl (.mv (.c (.bool false)))⟩])
  (.seq (.region [⟨none, (some 8), .inr (.fn 22 [])⟩,
    ⟨none, (some 1), .inl (.mv (.s 8))⟩])
  (.seq (.region [⟨none, (some 10), .inl (.mv (.s 1))⟩,
    ⟨none, (some 11), .inr (.fn 23 [(.s 10), (.c (.slice none 0 0))])⟩,
    ⟨none, (some 9), .inl (.mv (.s 11))⟩,
    ⟨none, (some 12), .inl (.ex (.s 9) 0)⟩,
    ⟨none, (some 13), .inl (.ex (.s 9) 1)⟩,
    ⟨none, (some 2), .inl (.mv (.s 12))⟩,
    ⟨none, (some 3), .inl (.mv (.s 13))⟩])
  (.seq (.region [⟨none, (some 15), .inl (.mv (.s 1))⟩,
    ⟨none, (some 16), .inl (.bs 3 1 2 [(.int .i64 0)] [(0, (.c (.int .i64 1))), (1, (.c (.int .i64 4)))])⟩,
    ⟨none, (some 17), .inl (.bs 3 1 2 [(.int .i64 0)] [(0, (.c (.int .i64 2))), (1, (.c (.int .i64 3)))])⟩,
    ⟨none, (some 18), .inl (.bs 35 1 2 [(.slice none 0 0)] [(0, (.s 16)), (1, (.s 17))])⟩,
    ⟨none, (some 19), .inl (.bld [(.slice none 0 0)] [(0, 1, (.s 18))])⟩,
    ⟨none, (some 20), .inr (.fn 24 [(.s 15), (.s 19)])⟩,
    ⟨none, (some 14), .inl (.mv (.s 20))⟩,
    ⟨none, (some 21), .inl (.ex (.s 14) 0)⟩,
    ⟨none, (some 22), .inl (.ex (.s 14) 1)⟩,
    ⟨none, (some 4), .inl (.mv (.s 21))⟩,
    ⟨none, (some 5), .inl (.mv (.s 22))⟩])
  (.seq (.region [⟨none, (some 24), .inl (.mv (.s 1))⟩,
    ⟨none, (some 25), .inl (.bld [(.int .i64 0), (.int .i64 0), (.bool false)] [(0, 1, (.c (.int .i64 2))), (1, 1, (.c (.int .i64 3))), (2, 1, (.c (.bool true)))])⟩,
    ⟨none, (some 26), .inl (.bs 62 3 1 [(.int .i64 0), (.int .i64 0), (.bool false)] [(0, (.s 25))])⟩,
    ⟨none, (some 27), .inr (.fn 25 [(.s 24), (.s 26), (.c (.int .i64 1)), (.c (.int .i64 4))])⟩,
    ⟨none, (some 23), .inl (.mv (.s 27))⟩,
    ⟨none, (some 28), .inl (.ex (.s 23) 0)⟩,
    ⟨none, (some 29), .inl (.ex (.s 23) 1)⟩,
    ⟨none, (some 6), .inl (.mv (.s 28))⟩,
    ⟨none, (some 7), .inl (.mv (.s 29))⟩])
  (.seq (.draw [⟨⟨none, (some 30), .inl (.mv (.s 3))⟩, (some []), [], 0, false⟩,
    ⟨⟨none, (some 31), .inl (.bin .eql (.s 30) (.c (.int .i64 0)))⟩, (some []), [], 1, false⟩,
    ⟨⟨none, (some 32), .inl (.mv (.s 31))⟩, (some []), [], 3, false⟩,
    ⟨⟨(some (32, true)), (some 33), .inl (.mv (.s 2))⟩, (some []), [], 7, false⟩,
    ⟨⟨(some (32, true)), (some 34), .inl (.bin .eql (.s 33) (.c (.int .i64 6)))⟩, (some []), [], 15, false⟩,
    ⟨⟨none, (some 35), .inl (.pick (.s 32) (.s 34) (.c (.bool false)))⟩, (some []), [], 31, false⟩,
    ⟨⟨none, (some 36), .inl (.mv (.s 35))⟩, (some []), [], 63, false⟩,
    ⟨⟨(some (36, true)), (some 37), .inl (.mv (.s 5))⟩, (some []), [], 127, false⟩,
    ⟨⟨(some (36, true)), (some 38), .inl (.bin .eql (.s 37) (.c (.int .i64 0)))⟩, (some []), [], 255, false⟩,
    ⟨⟨none, (some 39), .inl (.pick (.s 36) (.s 38) (.c (.bool false)))⟩, (some []), [], 511, false⟩,
    ⟨⟨none, (some 40), .inl (.mv (.s 39))⟩, (some []), [], 1023, false⟩,
    ⟨⟨(some (40, true)), (some 41), .inl (.mv (.s 4))⟩, (some []), [], 2047, false⟩,
    ⟨⟨(some (40, true)), (some 42), .inl (.len (.s 41))⟩, (some []), [], 4095, false⟩,
    ⟨⟨(some (40, true)), (some 43), .inl (.bin .eql (.s 42) (.c (.int .i64 2)))⟩, (some []), [], 8191, false⟩,
    ⟨⟨none, (some 44), .inl (.pick (.s 40) (.s 43) (.c (.bool false)))⟩, (some []), [], 16383, false⟩,
    ⟨⟨none, (some 45), .inl (.mv (.s 44))⟩, (some []), [], 32767, false⟩,
    ⟨⟨(some (45, true)), (some 46), .inl (.mv (.s 4))⟩, (some []), [], 65535, false⟩,
    ⟨⟨(some (45, true)), (some 47), .inl (.ias 1 (.s 46) (.c (.int .i64 1)))⟩, (some []), [], 131071, false⟩,
    ⟨⟨(some (45, true)), (some 48), .inl (.ld false 1 (.s 47))⟩, (some []), [], 262143, false⟩,
    ⟨⟨(some (45, true)), (some 49), .inl (.bin .eql (.s 48) (.c (.int .i64 1)))⟩, (some []), [], 524287, false⟩,
    ⟨⟨none, (some 50), .inl (.pick (.s 45) (.s 49) (.c (.bool false)))⟩, (some []), [], 1048575, false⟩,
    ⟨⟨none, (some 51), .inl (.mv (.s 50))⟩, (some []), [], 2097151, false⟩,
    ⟨⟨(some (51, true)), (some 52), .inl (.mv (.s 7))⟩, (some []), [], 4194303, false⟩,
    ⟨⟨(some (51, true)), (some 53), .inl (.bin .eql (.s 52) (.c (.int .i64 0)))⟩, (some []), [], 8388607, false⟩,
    ⟨⟨none, (some 54), .inl (.pick (.s 51) (.s 53) (.c (.bool false)))⟩, (some []), [], 16777215, false⟩,
    ⟨⟨none, (some 55), .inl (.mv (.s 54))⟩, (some []), [], 33554431, false⟩,
    ⟨⟨(some (55, true)), (some 56), .inl (.mv (.s 6))⟩, (some []), [], 67108863, false⟩,
    ⟨⟨(some (55, true)), (some 57), .inl (.bin .eql (.s 56) (.c (.int .i64 4)))⟩, (some []), [], 134217727, false⟩,
    ⟨⟨none, (some 58), .inl (.pick (.s 55) (.s 57) (.c (.bool false)))⟩, (some []), [], 268435455, false⟩,
    ⟨⟨none, (some 59), .inl (.mv (.s 58))⟩, (some []), [], 536870911, false⟩,
    ⟨⟨(some (59, true)), (some 60), .inl (.bld [(.int .i64 0), (.int .i64 0), (.int .i64 0), (.int .i64 0), (.int .i64 0), (.int .i64 0), (.int .i64 0), (.int .i64 0)] [])⟩, (some []), [], 1073741823, false⟩,
    ⟨⟨(some (59, true)), (some 61), .inl (.bs 31 8 1 [(.int .i64 0), (.int .i64 0), (.int .i64 0), (.int .i64 0), (.int .i64 0), (.int .i64 0), (.int .i64 0), (.int .i64 0)] [(0, (.s 60))])⟩, (some [.fr 61]), [], 2147483647, false⟩,
    ⟨⟨(some (59, true)), (some 62), .inr (.fn 26 [(.s 61)])⟩, (some []), [], 4294967295, false⟩,
    ⟨⟨(some (59, true)), (some 63), .inl (.bin .eql (.s 62) (.c (.int .i64 40)))⟩, (some []), [], 8589934591, false⟩,
    ⟨⟨none, (some 64), .inl (.pick (.s 59) (.s 63) (.c (.bool false)))⟩, (some []), [], 17179869183, false⟩,
    ⟨⟨none, (some 65), .inl (.mv (.s 64))⟩, (some []), [], 34359738367, false⟩,
    ⟨⟨(some (65, true)), (some 66), .inl (.mv (.s 1))⟩, (some []), [], 68719476735, false⟩,
    ⟨⟨(some (65, true)), (some 67), .inl (.ias 8 (.s 66) (.c (.int .i64 0)))⟩, (some []), [], 137438953471, false⟩,
    ⟨⟨(some (65, true)), (some 68), .inl (.ld true 8 (.s 67))⟩, (some []), [], 274877906943, false⟩,
    ⟨⟨(some (65, true)), (some 69), .inl (.mv (.s 1))⟩, (some []), [], 68719476735, false⟩,
    ⟨⟨(some (65, true)), (some 70), .inl (.ias 8 (.s 69) (.c (.int .i64 2)))⟩, (some []), [], 618475290623, false⟩,
    ⟨⟨(some (65, true)), (some 71), .inl (.ld true 8 (.s 70))⟩, (some []), [], 1717986918399, false⟩,
    ⟨⟨(some (65, true)), (some 72), .inr (.fn 9 [(.s 68), (.s 71)])⟩, (some []), [], 4398046511103, false⟩,
    ⟨⟨none, (some 73), .inl (.pick (.s 65) (.s 72) (.c (.bool false)))⟩, (some []), [], 8796093022207, false⟩,
    ⟨⟨none, (some 0), .inl (.mv (.s 73))⟩, (some []), [], 17592186044415, false⟩])
  (.ret))))))
def k7l0 : Cd :=
  .seq (.region [⟨none, (some 26), .inl (.bin .lss (.s 25) (.c (.int .i64 3)))⟩])
  (.seq (.cond (.s 26) (.skip)
  (.exit 2))
  (.seq (.block 3 (.seq (.region [⟨none, (some 27), .inl (.mv (.s 25))⟩,
    ⟨none, (some 28), .inl (.ixa true 2 3 (.s 24) (.s 25))⟩,
    ⟨none, (some 8), .inl (.alloc 25 [(.int .i64 0), (.int .i64 0)])⟩,
    ⟨none, (some 7), .inl (.mv (.s 27))⟩,
    ⟨none, none, .inl (.st 2 (.s 8) (.s 28))⟩])
  (.seq (.draw [⟨⟨none, (some 29), .inl (.mv (.s 7))⟩, (some []), [], 0, false⟩,
    ⟨⟨none, (some 30), .inl (.mv (.s 7))⟩, (some []), [], 0, false⟩,
    ⟨⟨none, (some 31), .inl (.iaa 3 2 (.s 4) (.s 30))⟩, (some []), [], 2, false⟩,
    ⟨⟨none, (some 32), .inl (.ld true 2 (.s 31))⟩, (some []), [], 6, false⟩,
    ⟨⟨none, (some 33), .inl (.ld true 2 (.s 8))⟩, (some []), [], 0, false⟩,
    ⟨⟨none, (some 34), .inr (.fn 27 [(.s 32), (.s 33)])⟩, (some []), [], 30, false⟩,
    ⟨⟨none, (some 35), .inl (.iaa 3 2 (.s 4) (.s 29))⟩, (some []), [], 63, false⟩,
    ⟨⟨none, none, .inl (.st 2 (.s 35) (.s 34))⟩, (some [.at 4]), [], 127, false⟩])
  (.seq (.draw [⟨⟨none, (some 36), .inl (.mv (.s 7))⟩, (some []), [], 0, false⟩,
    ⟨⟨none, (some 37), .inl (.iaa 3 2 (.s 4) (.s 36))⟩, (some []), [], 1, false⟩,
    ⟨⟨none, (some 38), .inl (.ld true 2 (.s 37))⟩, (some []), [], 3, false⟩,
    ⟨⟨none, (some 39), .inl (.ld true 2 (.g 0))⟩, (some []), [], 0, false⟩,
    ⟨⟨none, (some 40), .inl (.eq false (.cells [.int, .int]) (.s 38) (.s 39))⟩, (some []), [], 15, false⟩])
  (.cond (.s 40) (.seq (.region [⟨none, (some 41), .inl (.bld [(.int .i64 0), (.int .i64 0), (.int .i64 0), (.int .i64 0), (.int .i64 0), (.int .i64 0)] [])⟩,
     ⟨none, none, .inl (.st 6 (.s 2) (.s 41))⟩,
     ⟨none, (some 3), .inl (.mv (.c (.bool false)))⟩])
   (.ret))
  (.skip))))))
  (.region [⟨none, (some 42), .inl (.bin .add (.s 25) (.c (.int .i64 1)))⟩,
    ⟨none, (some 25), .inl (.mv (.s 42))⟩])))
def k7l1 : Cd :=
  .seq (.region [⟨none, (some 20), .inl (.bin .lss (.s 19) (.s 18))⟩])
  (.seq (.cond (.s 20) (.skip)
  (.exit 0))
  (.seq (.block 1 (.seq (.region [⟨none, (some 21), .inl (.ias 8 (.s 17) (.s 19))⟩,
    ⟨none, (some 22), .inl (.ld true 8 (.s 21))⟩,
    ⟨none, (some 6), .inl (.alloc 31 [(.int .i64 0), (.int .i64 0), (.int .i64 0), (.int .i64 0), (.int .i64 0), (.int .i64 0), (.int .i64 0), (.int .i64 0)])⟩,
    ⟨none, none, .inl (.st 8 (.s 6) (.s 22))⟩])
  (.seq (.region [⟨none, (some 23), .inl (.fa (.s 6) 2)⟩,
    ⟨none, (some 24), .inl (.ld true 6 (.s 23))⟩,
    ⟨none, (some 25), .inl (.mv (.c (.int .i64 0)))⟩])
  (.block 2 (.loop k7l0)))))
  (.region [⟨none, (some 43), .inl (.bin .add (.s 19) (.c (.int .i64 1)))⟩,
    ⟨none, (some 19), .inl (.mv (.s 43))⟩])))
/-- gyttja/ash.Common -/
def k7 : Cd :=
  .seq (.region [⟨none, (some 2), .inl (.alloc 26 [(.int .i64 0), (.int .i64 0), (.int .i64 0), (.int .i64 0), (.int .i64 0), (.int .i64 0)])⟩,
    ⟨none, (some 3), .inl (.mv (.c (.bool false)))⟩])
  (.seq (.seq (.region [⟨none, (some 9), .inl (.mv (.s 0))⟩,
    ⟨none, (some 10), .inl (.len (.s 9))⟩,
    ⟨none, (some 11), .inl (.bin .eql (.s 10) (.c (.int .i64 0)))⟩])
  (.cond (.s 11) (.seq (.region [⟨none, (some 12), .inl (.bld [(.int .i64 0), (.int .i64 0), (.int .i64 0), (.int .i64 0), (.int .i64 0), (.int .i64 0)] [])⟩,
     ⟨none, none, .inl (.st 6 (.s 2) (.s 12))⟩,
     ⟨none, (some 3), .inl (.mv (.c (.bool false)))⟩])
   (.ret))
  (.skip)))
  (.seq (.region [⟨none, (some 13), .inl (.mv (.s 0))⟩,
    ⟨none, (some 14), .inl (.ias 8 (.s 13) (.c (.int .i64 0)))⟩,
    ⟨none, (some 15), .inl (.fa (.s 14) 2)⟩,
    ⟨none, (some 16), .inl (.ld true 6 (.s 15))⟩,
    ⟨none, (some 4), .inl (.alloc 26 [(.int .i64 0), (.int .i64 0), (.int .i64 0), (.int .i64 0), (.int .i64 0), (.int .i64 0)])⟩,
    ⟨none, none, .inl (.st 6 (.s 4) (.s 16))⟩])
  (.seq (.seq (.region [⟨none, (some 17), .inl (.mv (.s 0))⟩,
    ⟨none, (some 18), .inl (.len (.s 17))⟩,
    ⟨none, (some 19), .inl (.mv (.c (.int .i64 0)))⟩])
  (.block 0 (.loop k7l1)))
  (.seq (.region [⟨none, (some 44), .inl (.ld true 6 (.s 4))⟩,
    ⟨none, none, .inl (.st 6 (.s 2) (.s 44))⟩,
    ⟨none, (some 3), .inl (.mv (.c (.bool true)))⟩])
  (.ret)))))
def k8l0 : Cd :=
  .seq (.seq (.region [⟨none, (some 15), .inl (.mv (.s 6))⟩,
    ⟨none, (some 16), .inl (.bin .lss (.s 15) (.c (.int .i64 3)))⟩])
  (.cond (.s 16) (.skip)
  (.exit 2)))
  (.seq (.block 3 (.seq (.region [⟨none, (some 19), .inl (.mv (.s 0))⟩,
    ⟨none, (some 20), .inl (.mv (.s 5))⟩,
    ⟨none, (some 21), .inl (.mv (.s 6))⟩,
    ⟨none, (some 22), .inl (.ias 8 (.s 19) (.s 20))⟩,
    ⟨none, (some 23), .inl (.fa (.s 22) 2)⟩,
    ⟨none, (some 24), .inl (.iaa 3 2 (.s 23) (.s 21))⟩,
    ⟨none, (some 25), .inl (.ld true 2 (.s 24))⟩,
    ⟨none, (some 7), .inl (.alloc 25 [(.int .i64 0), (.int .i64 0)])⟩,
    ⟨none, none, .inl (.st 2 (.s 7) (.s 25))⟩])
  (.seq (.seq (.region [⟨none, (some 26), .inl (.mv (.s 5))⟩,
    ⟨none, (some 27), .inl (.bin .eql (.s 26) (.c (.int .i64 0)))⟩])
  (.cond (.s 27) (.region [⟨none, (some 28), .inl (.mv (.s 6))⟩,
     ⟨none, (some 29), .inl (.ld true 2 (.s 7))⟩,
     ⟨none, (some 30), .inl (.iaa 3 2 (.s 4) (.s 28))⟩,
     ⟨none, none, .inl (.st 2 (.s 30) (.s 29))⟩])
  (.skip)))
  (.draw [⟨⟨none, (some 31), .inl (.mv (.s 6))⟩, (some []), [], 0, false⟩,
    ⟨⟨none, (some 32), .inl (.mv (.s 6))⟩, (some []), [], 0, false⟩,
    ⟨⟨none, (some 33), .inl (.iaa 3 2 (.s 4) (.s 32))⟩, (some []), [], 2, false⟩,
    ⟨⟨none, (some 34), .inl (.fa (.s 33) 0)⟩, (some []), [], 6, false⟩,
    ⟨⟨none, (some 35), .inl (.ld false 1 (.s 34))⟩, (some []), [], 14, false⟩,
    ⟨⟨none, (some 36), .inl (.fa (.s 7) 0)⟩, (some []), [], 0, false⟩,
    ⟨⟨none, (some 37), .inl (.ld false 1 (.s 36))⟩, (some []), [], 32, false⟩,
    ⟨⟨none, (some 38), .inl (.mm true (.s 35) (.s 37))⟩, (some []), [], 126, false⟩,
    ⟨⟨none, (some 39), .inl (.mv (.s 6))⟩, (some []), [], 0, false⟩,
    ⟨⟨none, (some 40), .inl (.iaa 3 2 (.s 4) (.s 39))⟩, (some []), [], 256, false⟩,
    ⟨⟨none, (some 41), .inl (.fa (.s 40) 1)⟩, (some []), [], 768, false⟩,
    ⟨⟨none, (some 42), .inl (.ld false 1 (.s 41))⟩, (some []), [], 1792, false⟩,
    ⟨⟨none, (some 43), .inl (.fa (.s 7) 1)⟩, (some []), [], 0, false⟩,
    ⟨⟨none, (some 44), .inl (.ld false 1 (.s 43))⟩, (some []), [], 4096, false⟩,
    ⟨⟨none, (some 45), .inl (.mm false (.s 42) (.s 44))⟩, (some []), [], 16128, false⟩,
    ⟨⟨none, (some 46), .inl (.bld [(.int .i64 0), (.int .i64 0)] [(0, 1, (.s 38)), (1, 1, (.s 45))])⟩, (some []), [], 32766, false⟩,
    ⟨⟨none, (some 47), .inl (.iaa 3 2 (.s 4) (.s 31))⟩, (some []), [], 65535, false⟩,
    ⟨⟨none, none, .inl (.st 2 (.s 47) (.s 46))⟩, (some [.at 4]), [], 131071, false⟩]))))
  (.region [⟨none, (some 17), .inl (.mv (.s 6))⟩,
    ⟨none, (some 18), .inl (.bin .add (.s 17) (.c (.int .i64 1)))⟩,
    ⟨none, (some 6), .inl (.mv (.s 18))⟩]))
def k8l1 : Cd :=
  .seq (.seq (.region [⟨none, (some 9), .inl (.mv (.s 5))⟩,
    ⟨none, (some 10), .inl (.mv (.s 0))⟩,
    ⟨none, (some 11), .inl (.len (.s 10))⟩,
    ⟨none, (some 12), .inl (.bin .lss (.s 9) (.s 11))⟩])
  (.cond (.s 12) (.skip)
  (.exit 0)))
  (.seq (.block 1 (.seq (.region [⟨none, (some 6), .inl (.mv (.c (.int .i64 0)))⟩])
  (.block 2 (.loop k8l0))))
  (.region [⟨none, (some 13), .inl (.mv (.s 5))⟩,
    ⟨none, (some 14), .inl (.bin .add (.s 13) (.c (.int .i64 1)))⟩,
    ⟨none, (some 5), .inl (.mv (.s 14))⟩]))
def k8l2 : Cd :=
  .seq (.seq (.region [⟨none, (some 48), .inl (.mv (.s 8))⟩,
    ⟨none, (some 49), .inl (.bin .lss (.s 48) (.c (.int .i64 3)))⟩])
  (.cond (.s 49) (.skip)
  (.exit 4)))
  (.seq (.block 5 (.seq (.draw [⟨⟨none, (some 52), .inl (.mv (.s 0))⟩, (some []), [], 0, false⟩,
    ⟨⟨none, (some 53), .inl (.len (.s 52))⟩, (some []), [], 1, false⟩,
    ⟨⟨none, (some 54), .inl (.bin .eql (.s 53) (.c (.int .i64 0)))⟩, (some []), [], 3, false⟩,
    ⟨⟨none, (some 55), .inl (.mv (.s 54))⟩, (some []), [], 7, false⟩,
    ⟨⟨(some (55, false)), (some 56), .inl (.mv (.s 8))⟩, (some []), [], 15, false⟩,
    ⟨⟨(some (55, false)), (some 57), .inl (.iaa 3 2 (.s 4) (.s 56))⟩, (some []), [], 31, false⟩,
    ⟨⟨(some (55, false)), (some 58), .inl (.fa (.s 57) 0)⟩, (some []), [], 63, false⟩,
    ⟨⟨(some (55, false)), (some 59), .inl (.ld false 1 (.s 58))⟩, (some []), [], 127, false⟩,
    ⟨⟨(some (55, false)), (some 60), .inl (.mv (.s 8))⟩, (some []), [], 15, false⟩,
    ⟨⟨(some (55, false)), (some 61), .inl (.iaa 3 2 (.s 4) (.s 60))⟩, (some []), [], 271, false⟩,
    ⟨⟨(some (55, false)), (some 62), .inl (.fa (.s 61) 1)⟩, (some []), [], 783, false⟩,
    ⟨⟨(some (55, false)), (some 63), .inl (.ld false 1 (.s 62))⟩, (some []), [], 1807, false⟩,
    ⟨⟨(some (55, false)), (some 64), .inl (.bin .gtr (.s 59) (.s 63))⟩, (some []), [], 4095, false⟩,
    ⟨⟨none, (some 65), .inl (.pick (.s 55) (.c (.bool true)) (.s 64))⟩, (some []), [], 8191, false⟩])
  (.cond (.s 65) (.seq (.region [⟨none, (some 66), .inl (.bld [(.int .i64 0), (.int .i64 0), (.int .i64 0), (.int .i64 0), (.int .i64 0), (.int .i64 0)] [])⟩,
     ⟨none, none, .inl (.st 6 (.s 2) (.s 66))⟩,
     ⟨none, (some 3), .inl (.mv (.c (.bool false)))⟩])
   (.ret))
  (.skip))))
  (.region [⟨none, (some 50), .inl (.mv (.s 8))⟩,
    ⟨none, (some 51), .inl (.bin .add (.s 50) (.c (.int .i64 1)))⟩,
    ⟨none, (some 8), .inl (.mv (.s 51))⟩]))
/-- gyttja/gyttjaref04.Common -/
def k8 : Cd :=
  .seq (.region [⟨none, (some 2), .inl (.alloc 26 [(.int .i64 0), (.int .i64 0), (.int .i64 0), (.int .i64 0), (.int .i64 0), (.int .i64 0)])⟩,
    ⟨none, (some 3), .inl (.mv (.c (.bool false)))⟩])
  (.seq (.region [⟨none, (some 4), .inl (.alloc 26 [(.int .i64 0), (.int .i64 0), (.int .i64 0), (.int .i64 0), (.int .i64 0), (.int .i64 0)])⟩])
  (.seq (.seq (.region [⟨none, (some 5), .inl (.mv (.c (.int .i64 0)))⟩])
  (.block 0 (.loop k8l1)))
  (.seq (.seq (.region [⟨none, (some 8), .inl (.mv (.c (.int .i64 0)))⟩])
  (.block 4 (.loop k8l2)))
  (.seq (.region [⟨none, (some 67), .inl (.ld true 6 (.s 4))⟩,
    ⟨none, none, .inl (.st 6 (.s 2) (.s 67))⟩,
    ⟨none, (some 3), .inl (.mv (.c (.bool true)))⟩])
  (.ret)))))
/-- gyttja/ash.Meets -/
def k9 : Cd :=
  .seq (.region [⟨none, (some 2), .inl (.box 31 8 (.s 0))⟩,
    ⟨none, (some 3), .inl (.box 31 8 (.s 1))⟩,
    ⟨none, (some 4), .inl (.mv (.c (.bool false)))⟩])
  (.seq (.region [⟨none, (some 8), .inl (.ld true 8 (.s 2))⟩,
    ⟨none, (some 9), .inl (.ld true 8 (.s 3))⟩,
    ⟨none, (some 10), .inl (.bs 31 8 2 [(.int .i64 0), (.int .i64 0), (.int .i64 0), (.int .i64 0), (.int .i64 0), (.int .i64 0), (.int .i64 0), (.int .i64 0)] [(0, (.s 8)), (1, (.s 9))])⟩,
    ⟨none, (some 11), .inr (.fn 7 [(.s 10)])⟩,
    ⟨none, (some 7), .inl (.mv (.s 11))⟩,
    ⟨none, (some 12), .inl (.ex (.s 7) 0)⟩,
    ⟨none, (some 13), .inl (.ex (.s 7) 1)⟩,
    ⟨none, (some 5), .inl (.alloc 26 [(.int .i64 0), (.int .i64 0), (.int .i64 0), (.int .i64 0), (.int .i64 0), (.int .i64 0)])⟩,
    ⟨none, none, .inl (.st 6 (.s 5) (.s 12))⟩,
    ⟨none, (some 6), .inl (.mv (.s 13))⟩])
  (.seq (.region [⟨none, (some 14), .inl (.mv (.s 6))⟩,
    ⟨none, (some 4), .inl (.mv (.s 14))⟩])
  (.ret)))
/-- gyttja/gyttjaref04.Meets -/
def k10 : Cd :=
  .seq (.region [⟨none, (some 2), .inl (.box 31 8 (.s 0))⟩,
    ⟨none, (some 3), .inl (.box 31 8 (.s 1))⟩,
    ⟨none, (some 4), .inl (.mv (.c (.bool false)))⟩])
  (.seq (.region [⟨none, (some 8), .inl (.ld true 8 (.s 2))⟩,
    ⟨none, (some 9), .inl (.ld true 8 (.s 3))⟩,
    ⟨none, (some 10), .inl (.bs 31 8 2 [(.int .i64 0), (.int .i64 0), (.int .i64 0), (.int .i64 0), (.int .i64 0), (.int .i64 0), (.int .i64 0), (.int .i64 0)] [(0, (.s 8)), (1, (.s 9))])⟩,
    ⟨none, (some 11), .inr (.fn 8 [(.s 10)])⟩,
    ⟨none, (some 7), .inl (.mv (.s 11))⟩,
    ⟨none, (some 12), .inl (.ex (.s 7) 0)⟩,
    ⟨none, (some 13), .inl (.ex (.s 7) 1)⟩,
    ⟨none, (some 5), .inl (.alloc 26 [(.int .i64 0), (.int .i64 0), (.int .i64 0), (.int .i64 0), (.int .i64 0), (.int .i64 0)])⟩,
    ⟨none, none, .inl (.st 6 (.s 5) (.s 12))⟩,
    ⟨none, (some 6), .inl (.mv (.s 13))⟩])
  (.seq (.region [⟨none, (some 14), .inl (.mv (.s 6))⟩,
    ⟨none, (some 4), .inl (.mv (.s 14))⟩])
  (.ret)))
/-- gyttja/gyttjalaw04.example -/
def k22 : Cd :=
  .seq (.region [⟨none, (some 0), .inl (.mv (.c (.slice none 0 0)))⟩])
  (.seq (.region [⟨none, (some 1), .inr (.fn 44 [])⟩,
    ⟨none, (some 2), .inl (.bld [(.int .i64 0), (.int .i64 0), (.int .i64 0), (.int .i64 0), (.int .i64 0), (.int .i64 0), (.int .i64 0), (.int .i64 0)] [(0, 1, (.c (.int .i64 1))), (1, 1, (.c (.int .i64 5))), (2, 6, (.s 1))])⟩,
    ⟨none, (some 3), .inr (.fn 44 [])⟩,
    ⟨none, (some 4), .inl (.bld [(.int .i64 0), (.int .i64 0), (.int .i64 0), (.int .i64 0), (.int .i64 0), (.int .i64 0), (.int .i64 0), (.int .i64 0)] [(0, 1, (.c (.int .i64 2))), (1, 1, (.c (.int .i64 9))), (2, 6, (.s 3))])⟩,
    ⟨none, (some 5), .inr (.fn 44 [])⟩,
    ⟨none, (some 6), .inl (.bld [(.int .i64 0), (.int .i64 0), (.int .i64 0), (.int .i64 0), (.int .i64 0), (.int .i64 0), (.int .i64 0), (.int .i64 0)] [(0, 1, (.c (.int .i64 3))), (1, 1, (.c (.int .i64 70))), (2, 6, (.s 5))])⟩,
    ⟨none, (some 7), .inr (.fn 44 [])⟩,
    ⟨none, (some 8), .inl (.bld [(.int .i64 0), (.int .i64 0), (.int .i64 0), (.int .i64 0), (.int .i64 0), (.int .i64 0), (.int .i64 0), (.int .i64 0)] [(0, 1, (.c (.int .i64 4))), (1, 1, (.c (.int .i64 75))), (2, 6, (.s 7))])⟩,
    ⟨none, (some 9), .inl (.bs 31 8 4 [(.int .i64 0), (.int .i64 0), (.int .i64 0), (.int .i64 0), (.int .i64 0), (.int .i64 0), (.int .i64 0), (.int .i64 0)] [(0, (.s 2)), (1, (.s 4)), (2, (.s 6)), (3, (.s 8))])⟩,
    ⟨none, (some 0), .inl (.mv (.s 9))⟩])
  (.ret))
def k23l0 : Cd :=
  .skip
def k23l1 : Cd :=
  .block 1 (.region [⟨none, (some 21), .inl (.ld false 1 (.s 8))⟩,
    ⟨none, (some 22), .inl (.bin .add (.s 21) (.c (.int .i64 1)))⟩,
    ⟨none, none, .inl (.st 1 (.s 8) (.s 22))⟩])
/-- gyttja/ash.Count -/
def k23 : Cd :=
  .seq (.region [⟨none, (some 4), .inl (.mv (.c (.int .i64 0)))⟩,
    ⟨none, (some 5), .inl (.mv (.c (.int .i64 0)))⟩])
  (.seq (.region [⟨none, (some 10), .inl (.mv (.s 0))⟩,
    ⟨none, (some 11), .inl (.mv (.s 1))⟩,
    ⟨none, (some 12), .inr (.fn 45 [(.s 10), (.s 11)])⟩,
    ⟨none, (some 9), .inl (.mv (.s 12))⟩,
    ⟨none, (some 13), .inl (.ex (.s 9) 0)⟩,
    ⟨none, (some 14), .inl (.ex (.s 9) 1)⟩,
    ⟨none, (some 6), .inl (.alloc 82 [(.slice none 0 0), (.bool false), (.bool false), (.bool false), (.bool false), (.bool false), (.bool false), (.bool false), (.bool false), (.bool false), (.bool false), (.bool false), (.bool false), (.bool false), (.bool false), (.bool false), (.bool false), (.bool false), (.bool false), (.bool false), (.bool false), (.bool false), (.bool false), (.bool false), (.bool false), (.bool false), (.bool false), (.bool false), (.bool false), (.bool false), (.bool false), (.bool false), (.bool false), (.bool false), (.bool false), (.bool false), (.bool false), (.bool false), (.bool false), (.bool false), (.bool false), (.bool false), (.bool false), (.bool false), (.bool false), (.bool false), (.bool false), (.bool false), (.bool false), (.bool false), (.bool false), (.bool false), (.bool false), (.bool false), (.bool false), (.bool false), (.bool false), (.bool false), (.bool false), (.bool false), (.bool false), (.bool false), (.bool false), (.bool false), (.bool false), (.bool false), (.bool false), (.bool false), (.bool false), (.bool false), (.bool false), (.bool false), (.bool false), (.bool false), (.bool false), (.bool false), (.bool false), (.bool false), (.bool false), (.bool false), (.bool false), (.bool false), (.bool false), (.bool false), (.bool false), (.bool false), (.bool false), (.bool false), (.bool false), (.bool false), (.bool false), (.bool false), (.bool false), (.bool false), (.bool false), (.bool false), (.bool false), (.bool false), (.bool false), (.bool false), (.bool false), (.bool false), (.bool false), (.bool false), (.bool false), (.bool false), (.bool false), (.bool false), (.bool false), (.bool false), (.bool false), (.bool false), (.bool false), (.bool false), (.bool false), (.bool false), (.bool false), (.bool false), (.bool false), (.bool false), (.bool false), (.bool false), (.bool false), (.bool false), (.bool false), (.bool false), (.bool false), (.bool false), (.bool false), (.bool false), (.bool false), (.bool false), (.bool false), (.bool false), (.bool false), (.bool false), (.bool false), (.bool false), (.bool false), (.bool false), (.bool false), (.bool false), (.bool false), (.bool false), (.bool false), (.bool false), (.bool false), (.bool false), (.bool false), (.bool false), (.bool false), (.bool false), (.bool false), (.bool false), (.bool false), (.bool false), (.bool false), (.bool false), (.bool false), (.bool false), (.bool false), (.bool false), (.bool false), (.bool false)])⟩,
    ⟨none, none, .inl (.st 164 (.s 6) (.s 13))⟩,
    ⟨none, (some 7), .inl (.mv (.s 14))⟩])
  (.seq (.seq (.region [⟨none, (some 15), .inl (.mv (.s 7))⟩,
    ⟨none, (some 16), .inl (.bin .neq (.s 15) (.c (.int .i64 0)))⟩])
  (.cond (.s 16) (.seq (.region [⟨none, (some 17), .inl (.mv (.s 7))⟩,
     ⟨none, (some 4), .inl (.mv (.c (.int .i64 0)))⟩,
     ⟨none, (some 5), .inl (.mv (.s 17))⟩])
   (.ret))
  (.skip)))
  (.seq (.region [⟨none, (some 8), .inl (.alloc 3 [(.int .i64 0)])⟩,
    ⟨none, none, .inl (.st 1 (.s 8) (.c (.int .i64 0)))⟩])
  (.seq (.seq (.region [⟨none, (some 18), .inl (.ld true 164 (.s 6))⟩,
    ⟨none, (some 19), .inr (.fn 46 [(.s 18), (.c (.slice none 0 0))])⟩])
  (.block 0 (.rangeF (.s 19) [20] k23l0 k23l1)))
  (.seq (.region [⟨none, (some 23), .inl (.ld false 1 (.s 8))⟩,
    ⟨none, (some 4), .inl (.mv (.s 23))⟩,
    ⟨none, (some 5), .inl (.mv (.c (.int .i64 0)))⟩])
  (.ret))))))
/-- gyttja/ash.Round -/
def k24 : Cd :=
  .seq (.region [⟨none, (some 3), .inl (.box 40 1 (.s 1))⟩,
    ⟨none, (some 4), .inl (.mv (.c (.slice none 0 0)))⟩,
    ⟨none, (some 5), .inl (.mv (.c (.int .i64 0)))⟩])
  (.seq (.region [⟨none, (some 10), .inl (.mv (.s 0))⟩,
    ⟨none, (some 11), .inl (.ld true 1 (.s 3))⟩,
    ⟨none, (some 12), .inr (.fn 36 [(.s 10), (.s 11)])⟩,
    ⟨none, (some 9), .inl (.mv (.s 12))⟩,
    ⟨none, (some 13), .inl (.ex (.s 9) 0)⟩,
    ⟨none, (some 14), .inl (.ex (.s 9) 1)⟩,
    ⟨none, (some 6), .inl (.mv (.s 13))⟩,
    ⟨none, (some 7), .inl (.mv (.s 14))⟩])
  (.seq (.seq (.region [⟨none, (some 15), .inl (.mv (.s 7))⟩,
    ⟨none, (some 16), .inl (.bin .neq (.s 15) (.c (.int .i64 0)))⟩])
  (.cond (.s 16) (.seq (.region [⟨none, (some 17), .inl (.mv (.s 7))⟩,
     ⟨none, (some 4), .inl (.mv (.c (.slice none 0 0)))⟩,
     ⟨none, (some 5), .inl (.mv (.s 17))⟩])
   (.ret))
  (.skip)))
  (.seq (.region [⟨none, (some 18), .inl (.mv (.s 0))⟩,
    ⟨none, (some 19), .inl (.mv (.s 6))⟩,
    ⟨none, (some 20), .inr (.fn 47 [(.s 18), (.s 19)])⟩,
    ⟨none, (some 21), .inr (.fn 48 [(.s 20)])⟩,
    ⟨none, (some 8), .inl (.mv (.s 21))⟩])
  (.seq (.seq (.region [⟨none, (some 22), .inl (.mv (.s 8))⟩,
    ⟨none, (some 23), .inl (.len (.s 22))⟩,
    ⟨none, (some 24), .inl (.bin .eql (.s 23) (.c (.int .i64 0)))⟩])
  (.cond (.s 24) (.seq (.region [⟨none, (some 4), .inl (.mv (.c (.slice none 0 0)))⟩,
     ⟨none, (some 5), .inl (.mv (.c (.int .i64 4)))⟩])
   (.ret))
  (.skip)))
  (.seq (.region [⟨none, (some 25), .inl (.mv (.s 8))⟩,
    ⟨none, (some 4), .inl (.mv (.s 25))⟩,
    ⟨none, (some 5), .inl (.mv (.c (.int .i64 0)))⟩])
  (.ret))))))
def k25l0 : Cd :=
  .seq (.seq (.region [⟨none, (some 47), .inl (.mv (.s 15))⟩,
    ⟨none, (some 48), .inl (.bin .lss (.s 47) (.c (.int .i64 5)))⟩])
  (.cond (.s 48) (.skip)
  (.exit 0)))
  (.seq (.block 1 (.seq (.draw [⟨⟨none, (some 51), .inl (.mv (.s 15))⟩, (some []), [], 0, false⟩,
    ⟨⟨none, (some 52), .inl (.iaa 5 1 (.s 14) (.s 51))⟩, (some []), [], 1, false⟩,
    ⟨⟨none, (some 53), .inl (.ld false 1 (.s 52))⟩, (some []), [], 3, false⟩,
    ⟨⟨none, (some 54), .inl (.ld true 164 (.s 10))⟩, (some []), [], 0, false⟩,
    ⟨⟨none, (some 55), .inl (.mv (.s 12))⟩, (some []), [], 0, false⟩,
    ⟨⟨none, (some 56), .inl (.mv (.s 13))⟩, (some []), [], 0, false⟩,
    ⟨⟨none, (some 57), .inr (.val (.s 53) [(.s 54), (.s 55), (.s 56)])⟩, (some []), [], 63, false⟩])
  (.cond (.s 57) (.seq (.region [⟨none, (some 58), .inl (.mv (.s 15))⟩,
     ⟨none, (some 8), .inl (.mv (.s 58))⟩,
     ⟨none, (some 9), .inl (.mv (.c (.int .i64 0)))⟩])
   (.ret))
  (.skip))))
  (.region [⟨none, (some 49), .inl (.mv (.s 15))⟩,
    ⟨none, (some 50), .inl (.bin .add (.s 49) (.c (.int .i64 1)))⟩,
    ⟨none, (some 15), .inl (.mv (.s 50))⟩]))
/-- gyttja/ash.Why -/
def k25 : Cd :=
  .seq (.region [⟨none, (some 8), .inl (.mv (.c (.int .i64 0)))⟩,
    ⟨none, (some 9), .inl (.mv (.c (.int .i64 0)))⟩])
  (.seq (.region [⟨none, (some 17), .inl (.mv (.s 0))⟩,
    ⟨none, (some 18), .inl (.mv (.s 1))⟩,
    ⟨none, (some 19), .inr (.fn 45 [(.s 17), (.s 18)])⟩,
    ⟨none, (some 16), .inl (.mv (.s 19))⟩,
    ⟨none, (some 20), .inl (.ex (.s 16) 0)⟩,
    ⟨none, (some 21), .inl (.ex (.s 16) 1)⟩,
    ⟨none, (some 10), .inl (.alloc 82 [(.slice none 0 0), (.bool false), (.bool false), (.bool false), (.bool false), (.bool false), (.bool false), (.bool false), (.bool false), (.bool false), (.bool false), (.bool false), (.bool false), (.bool false), (.bool false), (.bool false), (.bool false), (.bool false), (.bool false), (.bool false), (.bool false), (.bool false), (.bool false), (.bool false), (.bool false), (.bool false), (.bool false), (.bool false), (.bool false), (.bool false), (.bool false), (.bool false), (.bool false), (.bool false), (.bool false), (.bool false), (.bool false), (.bool false), (.bool false), (.bool false), (.bool false), (.bool false), (.bool false), (.bool false), (.bool false), (.bool false), (.bool false), (.bool false), (.bool false), (.bool false), (.bool false), (.bool false), (.bool false), (.bool false), (.bool false), (.bool false), (.bool false), (.bool false), (.bool false), (.bool false), (.bool false), (.bool false), (.bool false), (.bool false), (.bool false), (.bool false), (.bool false), (.bool false), (.bool false), (.bool false), (.bool false), (.bool false), (.bool false), (.bool false), (.bool false), (.bool false), (.bool false), (.bool false), (.bool false), (.bool false), (.bool false), (.bool false), (.bool false), (.bool false), (.bool false), (.bool false), (.bool false), (.bool false), (.bool false), (.bool false), (.bool false), (.bool false), (.bool false), (.bool false), (.bool false), (.bool false), (.bool false), (.bool false), (.bool false), (.bool false), (.bool false), (.bool false), (.bool false), (.bool false), (.bool false), (.bool false), (.bool false), (.bool false), (.bool false), (.bool false), (.bool false), (.bool false), (.bool false), (.bool false), (.bool false), (.bool false), (.bool false), (.bool false), (.bool false), (.bool false), (.bool false), (.bool false), (.bool false), (.bool false), (.bool false), (.bool false), (.bool false), (.bool false), (.bool false), (.bool false), (.bool false), (.bool false), (.bool false), (.bool false), (.bool false), (.bool false), (.bool false), (.bool false), (.bool false), (.bool false), (.bool false), (.bool false), (.bool false), (.bool false), (.bool false), (.bool false), (.bool false), (.bool false), (.bool false), (.bool false), (.bool false), (.bool false), (.bool false), (.bool false), (.bool false), (.bool false), (.bool false), (.bool false), (.bool false), (.bool false), (.bool false), (.bool false), (.bool false), (.bool false)])⟩,
    ⟨none, none, .inl (.st 164 (.s 10) (.s 20))⟩,
    ⟨none, (some 11), .inl (.mv (.s 21))⟩])
  (.seq (.seq (.region [⟨none, (some 22), .inl (.mv (.s 11))⟩,
    ⟨none, (some 23), .inl (.bin .neq (.s 22) (.c (.int .i64 0)))⟩])
  (.cond (.s 23) (.seq (.region [⟨none, (some 24), .inl (.mv (.s 11))⟩,
     ⟨none, (some 8), .inl (.mv (.c (.int .i64 0)))⟩,
     ⟨none, (some 9), .inl (.mv (.s 24))⟩])
   (.ret))
  (.skip)))
  (.seq (.region [⟨none, (some 25), .inl (.mv (.s 0))⟩,
    ⟨none, (some 26), .inl (.mv (.s 2))⟩,
    ⟨none, (some 27), .inl (.mv (.s 3))⟩,
    ⟨none, (some 28), .inl (.mm true (.s 26) (.s 27))⟩,
    ⟨none, (some 29), .inr (.fn 39 [(.s 25), (.s 28)])⟩,
    ⟨none, (some 30), .inl (.mv (.s 0))⟩,
    ⟨none, (some 31), .inl (.mv (.s 2))⟩,
    ⟨none, (some 32), .inl (.mv (.s 3))⟩,
    ⟨none, (some 33), .inl (.mm false (.s 31) (.s 32))⟩,
    ⟨none, (some 34), .inr (.fn 39 [(.s 30), (.s 33)])⟩,
    ⟨none, (some 12), .inl (.mv (.s 29))⟩,
    ⟨none, (some 13), .inl (.mv (.s 34))⟩])
  (.seq (.seq (.region [⟨none, (some 35), .inl (.mv (.s 12))⟩,
    ⟨none, (some 36), .inl (.bin .eql (.s 35) (.c (.int .i64 (-1))))⟩,
    ⟨none, (some 37), .inl (.mv (.s 36))⟩,
    ⟨(some (37, false)), (some 38), .inl (.mv (.s 13))⟩,
    ⟨(some (37, false)), (some 39), .inl (.bin .eql (.s 38) (.c (.int .i64 (-1))))⟩,
    ⟨none, (some 40), .inl (.pick (.s 37) (.c (.bool true)) (.s 39))⟩,
    ⟨none, (some 41), .inl (.mv (.s 40))⟩,
    ⟨(some (41, false)), (some 42), .inl (.mv (.s 12))⟩,
    ⟨(some (41, false)), (some 43), .inl (.mv (.s 13))⟩,
    ⟨(some (41, false)), (some 44), .inl (.bin .eql (.s 42) (.s 43))⟩,
    ⟨none, (some 45), .inl (.pick (.s 41) (.c (.bool true)) (.s 44))⟩])
  (.cond (.s 45) (.seq (.region [⟨none, (some 8), .inl (.mv (.c (.int .i64 0)))⟩,
     ⟨none, (some 9), .inl (.mv (.c (.int .i64 40)))⟩])
   (.ret))
  (.skip)))
  (.seq (.region [⟨none, (some 46), .inl (.bld [.nilFunc, .nilFunc, .nilFunc, .nilFunc, .nilFunc] [(1, 1, (.f 49)), (2, 1, (.f 50)), (3, 1, (.f 51)), (4, 1, (.f 52))])⟩,
    ⟨none, (some 14), .inl (.alloc 97 [.nilFunc, .nilFunc, .nilFunc, .nilFunc, .nilFunc])⟩,
    ⟨none, none, .inl (.st 5 (.s 14) (.s 46))⟩])
  (.seq (.seq (.region [⟨none, (some 15), .inl (.mv (.c (.int .i64 1)))⟩])
  (.block 0 (.loop k25l0)))
  (.seq (.region [⟨none, (some 8), .inl (.mv (.c (.int .i64 0)))⟩,
    ⟨none, (some 9), .inl (.mv (.c (.int .i64 0)))⟩])
  (.ret))))))))
def k26l0 : Cd :=
  .seq (.region [⟨none, (some 14), .inl (.bin .lss (.s 13) (.s 12))⟩])
  (.seq (.cond (.s 14) (.skip)
  (.exit 0))
  (.seq (.block 1 (.seq (.region [⟨none, (some 15), .inl (.ias 8 (.s 11) (.s 13))⟩,
    ⟨none, (some 16), .inl (.ld true 8 (.s 15))⟩,
    ⟨none, (some 6), .inl (.alloc 31 [(.int .i64 0), (.int .i64 0), (.int .i64 0), (.int .i64 0), (.int .i64 0), (.int .i64 0), (.int .i64 0), (.int .i64 0)])⟩,
    ⟨none, none, .inl (.st 8 (.s 6) (.s 16))⟩])
  (.seq (.seq (.region [⟨none, (some 17), .inl (.ld true 8 (.s 6))⟩,
    ⟨none, (some 18), .inr (.fn 53 [(.s 17)])⟩,
    ⟨none, (some 19), .inl (.not (.s 18))⟩,
    ⟨none, (some 20), .inl (.mv (.s 19))⟩,
    ⟨(some (20, false)), (some 21), .inl (.fa (.s 6) 0)⟩,
    ⟨(some (20, false)), (some 22), .inl (.ld false 1 (.s 21))⟩,
    ⟨(some (20, false)), (some 23), .inl (.mv (.s 4))⟩,
    ⟨(some (20, false)), (some 24), .inl (.bin .leq (.s 22) (.s 23))⟩,
    ⟨none, (some 25), .inl (.pick (.s 20) (.c (.bool true)) (.s 24))⟩,
    ⟨none, (some 26), .inl (.mv (.s 25))⟩,
    ⟨(some (26, false)), (some 27), .inl (.mv (.s 3))⟩,
    ⟨(some (26, false)), (some 28), .inl (.fa (.s 6) 1)⟩,
    ⟨(some (26, false)), (some 29), .inl (.ld false 1 (.s 28))⟩,
    ⟨(some (26, false)), (some 30), .inl (.lk .int (.bool false) false (.s 27) (.s 29))⟩,
    ⟨none, (some 31), .inl (.pick (.s 26) (.c (.bool true)) (.s 30))⟩])
  (.cond (.s 31) (.seq (.region [⟨none, (some 2), .inl (.mv (.c (.int .i64 40)))⟩])
   (.ret))
  (.skip)))
  (.seq (.region [⟨none, (some 32), .inl (.fa (.s 6) 0)⟩,
    ⟨none, (some 33), .inl (.ld false 1 (.s 32))⟩,
    ⟨none, (some 4), .inl (.mv (.s 33))⟩])
  (.region [⟨none, (some 34), .inl (.mv (.s 3))⟩,
    ⟨none, (some 35), .inl (.fa (.s 6) 1)⟩,
    ⟨none, (some 36), .inl (.ld false 1 (.s 35))⟩,
    ⟨none, none, .inl (.upd .int (.s 34) (.s 36) (.c (.bool true)))⟩])))))
  (.region [⟨none, (some 37), .inl (.bin .add (.s 13) (.c (.int .i64 1)))⟩,
    ⟨none, (some 13), .inl (.mv (.s 37))⟩])))
/-- gyttja/ash.Check -/
def k26 : Cd :=
  .seq (.region [⟨none, (some 2), .inl (.mv (.c (.int .i64 0)))⟩])
  (.seq (.seq (.region [⟨none, (some 7), .inl (.mv (.s 0))⟩,
    ⟨none, (some 8), .inl (.len (.s 7))⟩,
    ⟨none, (some 9), .inl (.bin .gtr (.s 8) (.c (.int .i64 9)))⟩])
  (.cond (.s 9) (.seq (.region [⟨none, (some 2), .inl (.mv (.c (.int .i64 40)))⟩])
   (.ret))
  (.skip)))
  (.seq (.region [⟨none, (some 10), .inl (.mkm)⟩,
    ⟨none, (some 3), .inl (.mv (.s 10))⟩])
  (.seq (.region [⟨none, (some 4), .inl (.mv (.c (.int .i64 0)))⟩])
  (.seq (.seq (.region [⟨none, (some 11), .inl (.mv (.s 0))⟩,
    ⟨none, (some 12), .inl (.len (.s 11))⟩,
    ⟨none, (some 13), .inl (.mv (.c (.int .i64 0)))⟩])
  (.block 0 (.loop k26l0)))
  (.seq (.region [⟨none, (some 2), .inl (.mv (.c (.int .i64 0)))⟩])
  (.ret))))))
/-- gyttja/ash.inBoth -/
def k27 : Cd :=
  .seq (.region [⟨none, (some 2), .inl (.box 25 2 (.s 0))⟩,
    ⟨none, (some 3), .inl (.box 25 2 (.s 1))⟩,
    ⟨none, (some 4), .inl (.alloc 25 [(.int .i64 0), (.int .i64 0)])⟩])
  (.seq (.region [⟨none, (some 6), .inl (.fa (.s 2) 0)⟩,
    ⟨none, (some 7), .inl (.ld false 1 (.s 6))⟩,
    ⟨none, (some 8), .inl (.fa (.s 3) 0)⟩,
    ⟨none, (some 9), .inl (.ld false 1 (.s 8))⟩,
    ⟨none, (some 10), .inl (.mm true (.s 7) (.s 9))⟩,
    ⟨none, (some 11), .inl (.fa (.s 2) 1)⟩,
    ⟨none, (some 12), .inl (.ld false 1 (.s 11))⟩,
    ⟨none, (some 13), .inl (.fa (.s 3) 1)⟩,
    ⟨none, (some 14), .inl (.ld false 1 (.s 13))⟩,
    ⟨none, (some 15), .inl (.mm false (.s 12) (.s 14))⟩,
    ⟨none, (some 16), .inl (.bld [(.int .i64 0), (.int .i64 0)] [(0, 1, (.s 10)), (1, 1, (.s 15))])⟩,
    ⟨none, (some 5), .inl (.alloc 25 [(.int .i64 0), (.int .i64 0)])⟩,
    ⟨none, none, .inl (.st 2 (.s 5) (.s 16))⟩])
  (.seq (.seq (.region [⟨none, (some 17), .inl (.fa (.s 5) 0)⟩,
    ⟨none, (some 18), .inl (.ld false 1 (.s 17))⟩,
    ⟨none, (some 19), .inl (.fa (.s 5) 1)⟩,
    ⟨none, (some 20), .inl (.ld false 1 (.s 19))⟩,
    ⟨none, (some 21), .inl (.bin .gtr (.s 18) (.s 20))⟩])
  (.cond (.s 21) (.seq (.region [⟨none, (some 22), .inl (.ld true 2 (.g 0))⟩,
     ⟨none, none, .inl (.st 2 (.s 4) (.s 22))⟩])
   (.ret))
  (.skip)))
  (.seq (.region [⟨none, (some 23), .inl (.ld true 2 (.s 5))⟩,
    ⟨none, none, .inl (.st 2 (.s 4) (.s 23))⟩])
  (.ret))))
/-- gyttja/ash.open -/
def k36 : Cd :=
  .seq (.region [⟨none, (some 3), .inl (.box 40 1 (.s 1))⟩,
    ⟨none, (some 4), .inl (.mv (.c (.slice none 0 0)))⟩,
    ⟨none, (some 5), .inl (.mv (.c (.int .i64 0)))⟩])
  (.seq (.seq (.region [⟨none, (some 9), .inl (.mv (.s 0))⟩,
    ⟨none, (some 10), .inr (.fn 26 [(.s 9)])⟩,
    ⟨none, (some 6), .inl (.mv (.s 10))⟩])
  (.seq (.region [⟨none, (some 11), .inl (.mv (.s 6))⟩,
    ⟨none, (some 12), .inl (.bin .neq (.s 11) (.c (.int .i64 0)))⟩])
  (.cond (.s 12) (.seq (.region [⟨none, (some 13), .inl (.mv (.s 6))⟩,
     ⟨none, (some 4), .inl (.mv (.c (.slice none 0 0)))⟩,
     ⟨none, (some 5), .inl (.mv (.s 13))⟩])
   (.ret))
  (.skip))))
  (.seq (.draw [⟨⟨none, (some 15), .inl (.mv (.s 0))⟩, (some []), [], 0, false⟩,
    ⟨⟨none, (some 16), .inr (.fn 59 [(.s 15)])⟩, (some []), [], 1, false⟩,
    ⟨⟨none, (some 17), .inl (.ld true 1 (.s 3))⟩, (some []), [], 0, false⟩,
    ⟨⟨none, (some 18), .inr (.fn 57 [(.s 16), (.s 17)])⟩, (some []), [], 7, false⟩,
    ⟨⟨none, (some 14), .inl (.mv (.s 18))⟩, (some []), [], 15, false⟩,
    ⟨⟨none, (some 19), .inl (.ex (.s 14) 0)⟩, (some []), [], 31, false⟩,
    ⟨⟨none, (some 20), .inl (.ex (.s 14) 1)⟩, (some []), [], 31, false⟩,
    ⟨⟨none, (some 7), .inl (.mv (.s 19))⟩, (some []), [], 63, false⟩,
    ⟨⟨none, (some 8), .inl (.mv (.s 20))⟩, (some []), [], 255, false⟩])
  (.seq (.seq (.region [⟨none, (some 21), .inl (.mv (.s 8))⟩,
    ⟨none, (some 22), .inl (.not (.s 21))⟩])
  (.cond (.s 22) (.seq (.region [⟨none, (some 4), .inl (.mv (.c (.slice none 0 0)))⟩,
     ⟨none, (some 5), .inl (.mv (.c (.int .i64 42)))⟩])
   (.ret))
  (.skip)))
  (.seq (.region [⟨none, (some 23), .inl (.mv (.s 7))⟩,
    ⟨none, (some 4), .inl (.mv (.s 23))⟩,
    ⟨none, (some 5), .inl (.mv (.c (.int .i64 0)))⟩])
  (.ret)))))
/-- gyttja/ash.within -/
def k37 : Cd :=
  .seq (.region [⟨none, (some 6), .inl (.mv (.c (.bool false)))⟩])
  (.seq (.region [⟨none, (some 7), .inl (.mv (.s 1))⟩,
    ⟨none, (some 8), .inl (.mv (.s 0))⟩,
    ⟨none, (some 9), .inl (.bin .leq (.s 7) (.s 8))⟩,
    ⟨none, (some 10), .inl (.mv (.s 9))⟩,
    ⟨(some (10, true)), (some 11), .inl (.mv (.s 0))⟩,
    ⟨(some (10, true)), (some 12), .inl (.mv (.s 2))⟩,
    ⟨(some (10, true)), (some 13), .inl (.bin .leq (.s 11) (.s 12))⟩,
    ⟨none, (some 14), .inl (.pick (.s 10) (.s 13) (.c (.bool false)))⟩,
    ⟨none, (some 6), .inl (.mv (.s 14))⟩])
  (.ret))
def k39l0 : Cd :=
  .seq (.region [⟨none, (some 10), .inl (.bin .lss (.s 9) (.s 8))⟩])
  (.seq (.cond (.s 10) (.skip)
  (.exit 0))
  (.seq (.block 1 (.seq (.region [⟨none, (some 11), .inl (.mv (.s 9))⟩,
    ⟨none, (some 12), .inl (.ias 8 (.s 7) (.s 9))⟩,
    ⟨none, (some 13), .inl (.ld true 8 (.s 12))⟩,
    ⟨none, (some 6), .inl (.alloc 31 [(.int .i64 0), (.int .i64 0), (.int .i64 0), (.int .i64 0), (.int .i64 0), (.int .i64 0), (.int .i64 0), (.int .i64 0)])⟩,
    ⟨none, (some 5), .inl (.mv (.s 11))⟩,
    ⟨none, none, .inl (.st 8 (.s 6) (.s 13))⟩])
  (.seq (.region [⟨none, (some 14), .inl (.fa (.s 6) 0)⟩,
    ⟨none, (some 15), .inl (.ld false 1 (.s 14))⟩,
    ⟨none, (some 16), .inl (.mv (.s 1))⟩,
    ⟨none, (some 17), .inl (.bin .eql (.s 15) (.s 16))⟩])
  (.cond (.s 17) (.seq (.region [⟨none, (some 18), .inl (.mv (.s 5))⟩,
     ⟨none, (some 4), .inl (.mv (.s 18))⟩])
   (.ret))
  (.skip)))))
  (.region [⟨none, (some 19), .inl (.bin .add (.s 9) (.c (.int .i64 1)))⟩,
    ⟨none, (some 9), .inl (.mv (.s 19))⟩])))
/-- gyttja/ash.indexOf -/
def k39 : Cd :=
  .seq (.region [⟨none, (some 4), .inl (.mv (.c (.int .i64 0)))⟩])
  (.seq (.seq (.region [⟨none, (some 7), .inl (.mv (.s 0))⟩,
    ⟨none, (some 8), .inl (.len (.s 7))⟩,
    ⟨none, (some 9), .inl (.mv (.c (.int .i64 0)))⟩])
  (.block 0 (.loop k39l0)))
  (.seq (.region [⟨none, (some 4), .inl (.mv (.c (.int .i64 (-1))))⟩])
  (.ret)))
/-- gyttja/gyttjalaw04.grains -/
def k44 : Cd :=
  .seq (.region [⟨none, (some 0), .inl (.alloc 26 [(.int .i64 0), (.int .i64 0), (.int .i64 0), (.int .i64 0), (.int .i64 0), (.int .i64 0)])⟩])
  (.seq (.region [⟨none, (some 1), .inl (.bld [(.int .i64 0), (.int .i64 0)] [(0, 1, (.c (.int .i64 10))), (1, 1, (.c (.int .i64 20)))])⟩,
    ⟨none, (some 2), .inl (.bld [(.int .i64 0), (.int .i64 0)] [(0, 1, (.c (.int .i64 10))), (1, 1, (.c (.int .i64 20)))])⟩,
    ⟨none, (some 3), .inl (.bld [(.int .i64 0), (.int .i64 0)] [(0, 1, (.c (.int .i64 10))), (1, 1, (.c (.int .i64 20)))])⟩,
    ⟨none, (some 4), .inl (.bld [(.int .i64 0), (.int .i64 0), (.int .i64 0), (.int .i64 0), (.int .i64 0), (.int .i64 0)] [(0, 2, (.s 1)), (2, 2, (.s 2)), (4, 2, (.s 3))])⟩,
    ⟨none, none, .inl (.st 6 (.s 0) (.s 4))⟩])
  (.ret))
def k45l0 : Cd :=
  .seq (.region [⟨none, (some 37), .inl (.bin .lss (.s 36) (.s 35))⟩])
  (.seq (.cond (.s 37) (.skip)
  (.exit 2))
  (.seq (.block 3 (.seq (.region [⟨none, (some 38), .inl (.mv (.s 36))⟩,
    ⟨none, (some 39), .inl (.ias 8 (.s 34) (.s 36))⟩,
    ⟨none, (some 40), .inl (.ld true 8 (.s 39))⟩,
    ⟨none, (some 11), .inl (.alloc 31 [(.int .i64 0), (.int .i64 0), (.int .i64 0), (.int .i64 0), (.int .i64 0), (.int .i64 0), (.int .i64 0), (.int .i64 0)])⟩,
    ⟨none, (some 10), .inl (.mv (.s 38))⟩,
    ⟨none, none, .inl (.st 8 (.s 11) (.s 40))⟩])
  (.draw [⟨⟨none, (some 41), .inl (.mv (.s 8))⟩, (some []), [], 0, false⟩,
    ⟨⟨none, (some 42), .inl (.mv (.s 10))⟩, (some []), [], 0, false⟩,
    ⟨⟨none, (some 43), .inl (.ld true 8 (.s 9))⟩, (some []), [], 0, false⟩,
    ⟨⟨none, (some 44), .inr (.fn 61 [(.s 43)])⟩, (some []), [], 4, false⟩,
    ⟨⟨none, (some 45), .inl (.ld true 8 (.s 11))⟩, (some []), [], 0, false⟩,
    ⟨⟨none, (some 46), .inr (.fn 61 [(.s 45)])⟩, (some []), [], 28, false⟩,
    ⟨⟨none, (some 47), .inl (.bin .eql (.s 44) (.s 46))⟩, (some []), [], 60, false⟩,
    ⟨⟨none, (some 48), .inl (.mv (.s 47))⟩, (some []), [], 124, false⟩,
    ⟨⟨(some (48, false)), (some 49), .inl (.ld true 8 (.s 9))⟩, (some []), [], 252, false⟩,
    ⟨⟨(some (48, false)), (some 50), .inl (.ld true 8 (.s 11))⟩, (some []), [], 252, false⟩,
    ⟨⟨(some (48, false)), (some 51), .inr (.fn 9 [(.s 49), (.s 50)])⟩, (some []), [], 1020, false⟩,
    ⟨⟨(some (48, false)), (some 52), .inl (.not (.s 51))⟩, (some []), [], 2044, false⟩,
    ⟨⟨none, (some 53), .inl (.pick (.s 48) (.c (.bool true)) (.s 52))⟩, (some []), [], 4092, false⟩,
    ⟨⟨none, (some 54), .inl (.fa (.s 7) 1)⟩, (some []), [], 0, false⟩,
    ⟨⟨none, (some 55), .inl (.iaa 9 9 (.s 54) (.s 41))⟩, (some []), [], 8193, false⟩,
    ⟨⟨none, (some 56), .inl (.iaa 9 1 (.s 55) (.s 42))⟩, (some []), [], 32767, false⟩,
    ⟨⟨none, none, .inl (.st 1 (.s 56) (.s 53))⟩, (some [.at 7]), [], 65535, false⟩])))
  (.region [⟨none, (some 57), .inl (.bin .add (.s 36) (.c (.int .i64 1)))⟩,
    ⟨none, (some 36), .inl (.mv (.s 57))⟩])))
def k45l1 : Cd :=
  .seq (.region [⟨none, (some 28), .inl (.bin .lss (.s 27) (.s 26))⟩])
  (.seq (.cond (.s 28) (.skip)
  (.exit 0))
  (.seq (.block 1 (.seq (.region [⟨none, (some 29), .inl (.mv (.s 27))⟩,
    ⟨none, (some 30), .inl (.ias 8 (.s 25) (.s 27))⟩,
    ⟨none, (some 31), .inl (.ld true 8 (.s 30))⟩,
    ⟨none, (some 9), .inl (.alloc 31 [(.int .i64 0), (.int .i64 0), (.int .i64 0), (.int .i64 0), (.int .i64 0), (.int .i64 0), (.int .i64 0), (.int .i64 0)])⟩,
    ⟨none, (some 8), .inl (.mv (.s 29))⟩,
    ⟨none, none, .inl (.st 8 (.s 9) (.s 31))⟩])
  (.seq (.region [⟨none, (some 32), .inl (.mv (.s 0))⟩,
    ⟨none, (some 33), .inl (.mv (.s 8))⟩,
    ⟨none, (some 34), .inl (.slc 8 (.s 32) none (some (.s 33)) none)⟩,
    ⟨none, (some 35), .inl (.len (.s 34))⟩,
    ⟨none, (some 36), .inl (.mv (.c (.int .i64 0)))⟩])
  (.block 2 (.loop k45l0)))))
  (.region [⟨none, (some 58), .inl (.bin .add (.s 27) (.c (.int .i64 1)))⟩,
    ⟨none, (some 27), .inl (.mv (.s 58))⟩])))
def k45l2 : Cd :=
  .seq (.region [⟨none, (some 62), .inl (.bin .lss (.s 61) (.s 60))⟩])
  (.seq (.cond (.s 62) (.skip)
  (.exit 4))
  (.seq (.block 5 (.seq (.region [⟨none, (some 63), .inl (.ias 3 (.s 59) (.s 61))⟩,
    ⟨none, (some 64), .inl (.ld true 3 (.s 63))⟩,
    ⟨none, (some 13), .inl (.alloc 62 [(.int .i64 0), (.int .i64 0), (.bool false)])⟩,
    ⟨none, none, .inl (.st 3 (.s 13) (.s 64))⟩])
  (.seq (.draw [⟨⟨none, (some 65), .inl (.mv (.s 0))⟩, (some []), [], 0, false⟩,
    ⟨⟨none, (some 66), .inl (.fa (.s 13) 0)⟩, (some []), [], 0, false⟩,
    ⟨⟨none, (some 67), .inl (.ld false 1 (.s 66))⟩, (some []), [], 2, false⟩,
    ⟨⟨none, (some 68), .inr (.fn 39 [(.s 65), (.s 67)])⟩, (some []), [], 7, false⟩,
    ⟨⟨none, (some 69), .inl (.mv (.s 0))⟩, (some []), [], 0, false⟩,
    ⟨⟨none, (some 70), .inl (.fa (.s 13) 1)⟩, (some []), [], 0, false⟩,
    ⟨⟨none, (some 71), .inl (.ld false 1 (.s 70))⟩, (some []), [], 32, false⟩,
    ⟨⟨none, (some 72), .inr (.fn 39 [(.s 69), (.s 71)])⟩, (some []), [], 127, false⟩,
    ⟨⟨none, (some 14), .inl (.mv (.s 68))⟩, (some []), [], 255, false⟩,
    ⟨⟨none, (some 15), .inl (.mv (.s 72))⟩, (some []), [], 511, false⟩])
  (.seq (.region [⟨none, (some 73), .inl (.fa (.s 13) 2)⟩,
    ⟨none, (some 74), .inl (.ld false 1 (.s 73))⟩])
  (.cond (.s 74) (.region [⟨none, (some 75), .inl (.mv (.s 15))⟩,
     ⟨none, (some 76), .inl (.mv (.s 14))⟩,
     ⟨none, (some 77), .inl (.fa (.s 7) 82)⟩,
     ⟨none, (some 78), .inl (.iaa 9 9 (.s 77) (.s 75))⟩,
     ⟨none, (some 79), .inl (.iaa 9 1 (.s 78) (.s 76))⟩,
     ⟨none, none, .inl (.st 1 (.s 79) (.c (.bool true)))⟩])
  (.region [⟨none, (some 80), .inl (.mv (.s 15))⟩,
     ⟨none, (some 81), .inl (.mv (.s 14))⟩,
     ⟨none, (some 82), .inl (.fa (.s 7) 1)⟩,
     ⟨none, (some 83), .inl (.iaa 9 9 (.s 82) (.s 80))⟩,
     ⟨none, (some 84), .inl (.iaa 9 1 (.s 83) (.s 81))⟩,
     ⟨none, none, .inl (.st 1 (.s 84) (.c (.bool true)))⟩]))))))
  (.region [⟨none, (some 85), .inl (.bin .add (.s 61) (.c (.int .i64 1)))⟩,
    ⟨none, (some 61), .inl (.mv (.s 85))⟩])))
/-- gyttja/ash.dealerOf -/
def k45 : Cd :=
  .seq (.region [⟨none, (some 4), .inl (.alloc 82 [(.slice none 0 0), (.bool false), (.bool false), (.bool false), (.bool false), (.bool false), (.bool false), (.bool false), (.bool false), (.bool false), (.bool false), (.bool false), (.bool false), (.bool false), (.bool false), (.bool false), (.bool false), (.bool false), (.bool false), (.bool false), (.bool false), (.bool false), (.bool false), (.bool false), (.bool false), (.bool false), (.bool false), (.bool false), (.bool false), (.bool false), (.bool false), (.bool false), (.bool false), (.bool false), (.bool false), (.bool false), (.bool false), (.bool false), (.bool false), (.bool false), (.bool false), (.bool false), (.bool false), (.bool false), (.bool false), (.bool false), (.bool false), (.bool false), (.bool false), (.bool false), (.bool false), (.bool false), (.bool false), (.bool false), (.bool false), (.bool false), (.bool false), (.bool false), (.bool false), (.bool false), (.bool false), (.bool false), (.bool false), (.bool false), (.bool false), (.bool false), (.bool false), (.bool false), (.bool false), (.bool false), (.bool false), (.bool false), (.bool false), (.bool false), (.bool false), (.bool false), (.bool false), (.bool false), (.bool false), (.bool false), (.bool false), (.bool false), (.bool false), (.bool false), (.bool false), (.bool false), (.bool false), (.bool false), (.bool false), (.bool false), (.bool false), (.bool false), (.bool false), (.bool false), (.bool false), (.bool false), (.bool false), (.bool false), (.bool false), (.bool false), (.bool false), (.bool false), (.bool false), (.bool false), (.bool false), (.bool false), (.bool false), (.bool false), (.bool false), (.bool false), (.bool false), (.bool false), (.bool false), (.bool false), (.bool false), (.bool false), (.bool false), (.bool false), (.bool false), (.bool false), (.bool false), (.bool false), (.bool false), (.bool false), (.bool false), (.bool false), (.bool false), (.bool false), (.bool false), (.bool false), (.bool false), (.bool false), (.bool false), (.bool false), (.bool false), (.bool false), (.bool false), (.bool false), (.bool false), (.bool false), (.bool false), (.bool false), (.bool false), (.bool false), (.bool false), (.bool false), (.bool false), (.bool false), (.bool false), (.bool false), (.bool false), (.bool false), (.bool false), (.bool false), (.bool false), (.bool false), (.bool false), (.bool false), (.bool false), (.bool false), (.bool false), (.bool false), (.bool false), (.bool false)])⟩,
    ⟨none, (some 5), .inl (.mv (.c (.int .i64 0)))⟩])
  (.seq (.seq (.region [⟨none, (some 16), .inl (.mv (.s 0))⟩,
    ⟨none, (some 17), .inl (.mv (.s 1))⟩,
    ⟨none, (some 18), .inr (.fn 60 [(.s 16), (.s 17)])⟩,
    ⟨none, (some 6), .inl (.mv (.s 18))⟩])
  (.seq (.region [⟨none, (some 19), .inl (.mv (.s 6))⟩,
    ⟨none, (some 20), .inl (.bin .neq (.s 19) (.c (.int .i64 0)))⟩])
  (.cond (.s 20) (.seq (.region [⟨none, (some 21), .inl (.bld [(.slice none 0 0), (.bool false), (.bool false), (.bool false), (.bool false), (.bool false), (.bool false), (.bool false), (.bool false), (.bool false), (.bool false), (.bool false), (.bool false), (.bool false), (.bool false), (.bool false), (.bool false), (.bool false), (.bool false), (.bool false), (.bool false), (.bool false), (.bool false), (.bool false), (.bool false), (.bool false), (.bool false), (.bool false), (.bool false), (.bool false), (.bool false), (.bool false), (.bool false), (.bool false), (.bool false), (.bool false), (.bool false), (.bool false), (.bool false), (.bool false), (.bool false), (.bool false), (.bool false), (.bool false), (.bool false), (.bool false), (.bool false), (.bool false), (.bool false), (.bool false), (.bool false), (.bool false), (.bool false), (.bool false), (.bool false), (.bool false), (.bool false), (.bool false), (.bool false), (.bool false), (.bool false), (.bool false), (.bool false), (.bool false), (.bool false), (.bool false), (.bool false), (.bool false), (.bool false), (.bool false), (.bool false), (.bool false), (.bool false), (.bool false), (.bool false), (.bool false), (.bool false), (.bool false), (.bool false), (.bool false), (.bool false), (.bool false), (.bool false), (.bool false), (.bool false), (.bool false), (.bool false), (.bool false), (.bool false), (.bool false), (.bool false), (.bool false), (.bool false), (.bool false), (.bool false), (.bool false), (.bool false), (.bool false), (.bool false), (.bool false), (.bool false), (.bool false), (.bool false), (.bool false), (.bool false), (.bool false), (.bool false), (.bool false), (.bool false), (.bool false), (.bool false), (.bool false), (.bool false), (.bool false), (.bool false), (.bool false), (.bool false), (.bool false), (.bool false), (.bool false), (.bool false), (.bool false), (.bool false), (.bool false), (.bool false), (.bool false), (.bool false), (.bool false), (.bool false), (.bool false), (.bool false), (.bool false), (.bool false), (.bool false), (.bool false), (.bool false), (.bool false), (.bool false), (.bool false), (.bool false), (.bool false), (.bool false), (.bool false), (.bool false), (.bool false), (.bool false), (.bool false), (.bool false), (.bool false), (.bool false), (.bool false), (.bool false), (.bool false), (.bool false), (.bool false), (.bool false), (.bool false), (.bool false), (.bool false), (.bool false), (.bool false), (.bool false), (.bool false), (.bool false)] [])⟩,
     ⟨none, (some 22), .inl (.mv (.s 6))⟩,
     ⟨none, none, .inl (.st 164 (.s 4) (.s 21))⟩,
     ⟨none, (some 5), .inl (.mv (.s 22))⟩])
   (.ret))
  (.skip))))
  (.seq (.region [⟨none, (some 23), .inl (.mv (.s 0))⟩,
    ⟨none, (some 24), .inl (.bld [(.slice none 0 0), (.bool false), (.bool false), (.bool false), (.bool false), (.bool false), (.bool false), (.bool false), (.bool false), (.bool false), (.bool false), (.bool false), (.bool false), (.bool false), (.bool false), (.bool false), (.bool false), (.bool false), (.bool false), (.bool false), (.bool false), (.bool false), (.bool false), (.bool false), (.bool false), (.bool false), (.bool false), (.bool false), (.bool false), (.bool false), (.bool false), (.bool false), (.bool false), (.bool false), (.bool false), (.bool false), (.bool false), (.bool false), (.bool false), (.bool false), (.bool false), (.bool false), (.bool false), (.bool false), (.bool false), (.bool false), (.bool false), (.bool false), (.bool false), (.bool false), (.bool false), (.bool false), (.bool false), (.bool false), (.bool false), (.bool false), (.bool false), (.bool false), (.bool false), (.bool false), (.bool false), (.bool false), (.bool false), (.bool false), (.bool false), (.bool false), (.bool false), (.bool false), (.bool false), (.bool false), (.bool false), (.bool false), (.bool false), (.bool false), (.bool false), (.bool false), (.bool false), (.bool false), (.bool false), (.bool false), (.bool false), (.bool false), (.bool false), (.bool false), (.bool false), (.bool false), (.bool false), (.bool false), (.bool false), (.bool false), (.bool false), (.bool false), (.bool false), (.bool false), (.bool false), (.bool false), (.bool false), (.bool false), (.bool false), (.bool false), (.bool false), (.bool false), (.bool false), (.bool false), (.bool false), (.bool false), (.bool false), (.bool false), (.bool false), (.bool false), (.bool false), (.bool false), (.bool false), (.bool false), (.bool false), (.bool false), (.bool false), (.bool false), (.bool false), (.bool false), (.bool false), (.bool false), (.bool false), (.bool false), (.bool false), (.bool false), (.bool false), (.bool false), (.bool false), (.bool false), (.bool false), (.bool false), (.bool false), (.bool false), (.bool false), (.bool false), (.bool false), (.bool false), (.bool false), (.bool false), (.bool false), (.bool false), (.bool false), (.bool false), (.bool false), (.bool false), (.bool false), (.bool false), (.bool false), (.bool false), (.bool false), (.bool false), (.bool false), (.bool false), (.bool false), (.bool false), (.bool false), (.bool false), (.bool false), (.bool false), (.bool false), (.bool false), (.bool false), (.bool false)] [(0, 1, (.s 23))])⟩,
    ⟨none, (some 7), .inl (.alloc 82 [(.slice none 0 0), (.bool false), (.bool false), (.bool false), (.bool false), (.bool false), (.bool false), (.bool false), (.bool false), (.bool false), (.bool false), (.bool false), (.bool false), (.bool false), (.bool false), (.bool false), (.bool false), (.bool false), (.bool false), (.bool false), (.bool false), (.bool false), (.bool false), (.bool false), (.bool false), (.bool false), (.bool false), (.bool false), (.bool false), (.bool false), (.bool false), (.bool false), (.bool false), (.bool false), (.bool false), (.bool false), (.bool false), (.bool false), (.bool false), (.bool false), (.bool false), (.bool false), (.bool false), (.bool false), (.bool false), (.bool false), (.bool false), (.bool false), (.bool false), (.bool false), (.bool false), (.bool false), (.bool false), (.bool false), (.bool false), (.bool false), (.bool false), (.bool false), (.bool false), (.bool false), (.bool false), (.bool false), (.bool false), (.bool false), (.bool false), (.bool false), (.bool false), (.bool false), (.bool false), (.bool false), (.bool false), (.bool false), (.bool false), (.bool false), (.bool false), (.bool false), (.bool false), (.bool false), (.bool false), (.bool false), (.bool false), (.bool false), (.bool false), (.bool false), (.bool false), (.bool false), (.bool false), (.bool false), (.bool false), (.bool false), (.bool false), (.bool false), (.bool false), (.bool false), (.bool false), (.bool false), (.bool false), (.bool false), (.bool false), (.bool false), (.bool false), (.bool false), (.bool false), (.bool false), (.bool false), (.bool false), (.bool false), (.bool false), (.bool false), (.bool false), (.bool false), (.bool false), (.bool false), (.bool false), (.bool false), (.bool false), (.bool false), (.bool false), (.bool false), (.bool false), (.bool false), (.bool false), (.bool false), (.bool false), (.bool false), (.bool false), (.bool false), (.bool false), (.bool false), (.bool false), (.bool false), (.bool false), (.bool false), (.bool false), (.bool false), (.bool false), (.bool false), (.bool false), (.bool false), (.bool false), (.bool false), (.bool false), (.bool false), (.bool false), (.bool false), (.bool false), (.bool false), (.bool false), (.bool false), (.bool false), (.bool false), (.bool false), (.bool false), (.bool false), (.bool false), (.bool false), (.bool false), (.bool false), (.bool false), (.bool false), (.bool false), (.bool false), (.bool false), (.bool false)])⟩,
    ⟨none, none, .inl (.st 164 (.s 7) (.s 24))⟩])
  (.seq (.seq (.region [⟨none, (some 25), .inl (.mv (.s 0))⟩,
    ⟨none, (some 26), .inl (.len (.s 25))⟩,
    ⟨none, (some 27), .inl (.mv (.c (.int .i64 0)))⟩])
  (.block 0 (.loop k45l1)))
  (.seq (.seq (.region [⟨none, (some 59), .inl (.mv (.s 1))⟩,
    ⟨none, (some 60), .inl (.len (.s 59))⟩,
    ⟨none, (some 61), .inl (.mv (.c (.int .i64 0)))⟩])
  (.block 4 (.loop k45l2)))
  (.seq (.region [⟨none, (some 86), .inl (.ld true 164 (.s 7))⟩,
    ⟨none, none, .inl (.st 164 (.s 4) (.s 86))⟩,
    ⟨none, (some 5), .inl (.mv (.c (.int .i64 0)))⟩])
  (.ret))))))
/-- (gyttja/ash.dealer).deals -/
def k46 : Cd :=
  .seq (.region [⟨none, (some 2), .inl (.box 82 164 (.s 0))⟩,
    ⟨none, (some 3), .inl (.box 35 1 (.s 1))⟩,
    ⟨none, (some 4), .inl (.mv (.c .nilFunc))⟩])
  (.seq (.region [⟨none, (some 5), .inl (.mkf (.func 62) [] [(.s 3), (.s 2)])⟩,
    ⟨none, (some 4), .inl (.mv (.s 5))⟩])
  (.ret))
def k47l0 : Cd :=
  .seq (.region [⟨none, (some 23), .inl (.bin .lss (.s 22) (.s 21))⟩])
  (.seq (.cond (.s 23) (.skip)
  (.exit 2))
  (.seq (.block 3 (.seq (.region [⟨none, (some 24), .inl (.mv (.s 22))⟩,
    ⟨none, (some 25), .inl (.ias 1 (.s 20) (.s 22))⟩,
    ⟨none, (some 26), .inl (.ld false 1 (.s 25))⟩,
    ⟨none, (some 8), .inl (.mv (.s 24))⟩,
    ⟨none, (some 9), .inl (.mv (.s 26))⟩])
  (.seq (.draw [⟨⟨none, (some 27), .inl (.mv (.s 7))⟩, (some []), [], 0, false⟩,
    ⟨⟨none, (some 28), .inl (.mv (.s 9))⟩, (some []), [], 0, false⟩,
    ⟨⟨none, (some 29), .inl (.bin .neq (.s 27) (.s 28))⟩, (some []), [], 3, false⟩,
    ⟨⟨none, (some 30), .inl (.mv (.s 29))⟩, (some []), [], 7, false⟩,
    ⟨⟨(some (30, true)), (some 31), .inl (.mv (.s 0))⟩, (some []), [], 15, false⟩,
    ⟨⟨(some (30, true)), (some 32), .inl (.mv (.s 6))⟩, (some []), [], 15, false⟩,
    ⟨⟨(some (30, true)), (some 33), .inl (.ias 8 (.s 31) (.s 32))⟩, (some []), [], 63, false⟩,
    ⟨⟨(some (30, true)), (some 34), .inl (.ld true 8 (.s 33))⟩, (some []), [], 127, false⟩,
    ⟨⟨(some (30, true)), (some 35), .inr (.fn 61 [(.s 34)])⟩, (some []), [], 255, false⟩,
    ⟨⟨(some (30, true)), (some 36), .inl (.mv (.s 0))⟩, (some []), [], 15, false⟩,
    ⟨⟨(some (30, true)), (some 37), .inl (.mv (.s 8))⟩, (some []), [], 15, false⟩,
    ⟨⟨(some (30, true)), (some 38), .inl (.ias 8 (.s 36) (.s 37))⟩, (some []), [], 1551, false⟩,
    ⟨⟨(some (30, true)), (some 39), .inl (.ld true 8 (.s 38))⟩, (some []), [], 3599, false⟩,
    ⟨⟨(some (30, true)), (some 40), .inr (.fn 61 [(.s 39)])⟩, (some []), [], 8191, false⟩,
    ⟨⟨(some (30, true)), (some 41), .inl (.bin .eql (.s 35) (.s 40))⟩, (some []), [], 16383, false⟩,
    ⟨⟨none, (some 42), .inl (.pick (.s 30) (.s 41) (.c (.bool false)))⟩, (some []), [], 32767, false⟩,
    ⟨⟨none, (some 43), .inl (.mv (.s 42))⟩, (some []), [], 65535, false⟩,
    ⟨⟨(some (43, true)), (some 44), .inl (.mv (.s 0))⟩, (some []), [], 131071, false⟩,
    ⟨⟨(some (43, true)), (some 45), .inl (.mv (.s 6))⟩, (some []), [], 131071, false⟩,
    ⟨⟨(some (43, true)), (some 46), .inl (.ias 8 (.s 44) (.s 45))⟩, (some []), [], 524287, false⟩,
    ⟨⟨(some (43, true)), (some 47), .inl (.fa (.s 46) 1)⟩, (some []), [], 1048575, false⟩,
    ⟨⟨(some (43, true)), (some 48), .inl (.ld false 1 (.s 47))⟩, (some []), [], 2097151, false⟩,
    ⟨⟨(some (43, true)), (some 49), .inl (.mv (.s 0))⟩, (some []), [], 131071, false⟩,
    ⟨⟨(some (43, true)), (some 50), .inl (.mv (.s 8))⟩, (some []), [], 131071, false⟩,
    ⟨⟨(some (43, true)), (some 51), .inl (.ias 8 (.s 49) (.s 50))⟩, (some []), [], 12713983, false⟩,
    ⟨⟨(some (43, true)), (some 52), .inl (.fa (.s 51) 1)⟩, (some []), [], 29491199, false⟩,
    ⟨⟨(some (43, true)), (some 53), .inl (.ld false 1 (.s 52))⟩, (some []), [], 63045631, false⟩,
    ⟨⟨(some (43, true)), (some 54), .inl (.bin .lss (.s 48) (.s 53))⟩, (some []), [], 134217727, false⟩,
    ⟨⟨none, (some 55), .inl (.pick (.s 43) (.s 54) (.c (.bool false)))⟩, (some []), [], 268435455, false⟩])
  (.cond (.s 55) (.draw [⟨⟨none, (some 56), .inl (.mv (.s 9))⟩, (some []), [], 0, false⟩,
     ⟨⟨none, (some 57), .inl (.fa (.s 5) 1)⟩, (some []), [], 0, false⟩,
     ⟨⟨none, (some 58), .inl (.iaa 9 1 (.s 57) (.s 56))⟩, (some []), [], 3, false⟩,
     ⟨⟨none, (some 59), .inl (.ld false 1 (.s 58))⟩, (some []), [], 7, false⟩,
     ⟨⟨none, (some 60), .inl (.mv (.s 7))⟩, (some []), [], 0, false⟩,
     ⟨⟨none, (some 61), .inl (.bin .shl (.c (.int .u64 1)) (.s 60))⟩, (some []), [], 16, false⟩,
     ⟨⟨none, (some 62), .inl (.bin .or (.s 59) (.s 61))⟩, (some []), [], 63, false⟩,
     ⟨⟨none, (some 63), .inl (.fa (.s 5) 1)⟩, (some []), [], 0, false⟩,
     ⟨⟨none, (some 64), .inl (.iaa 9 1 (.s 63) (.s 56))⟩, (some []), [], 255, false⟩,
     ⟨⟨none, none, .inl (.st 1 (.s 64) (.s 62))⟩, (some [.at 5]), [], 511, false⟩])
  (.skip)))))
  (.region [⟨none, (some 65), .inl (.bin .add (.s 22) (.c (.int .i64 1)))⟩,
    ⟨none, (some 22), .inl (.mv (.s 65))⟩])))
def k47l1 : Cd :=
  .seq (.region [⟨none, (some 16), .inl (.bin .lss (.s 15) (.s 14))⟩])
  (.seq (.cond (.s 16) (.skip)
  (.exit 0))
  (.seq (.block 1 (.seq (.region [⟨none, (some 17), .inl (.mv (.s 15))⟩,
    ⟨none, (some 18), .inl (.ias 1 (.s 13) (.s 15))⟩,
    ⟨none, (some 19), .inl (.ld false 1 (.s 18))⟩,
    ⟨none, (some 6), .inl (.mv (.s 17))⟩,
    ⟨none, (some 7), .inl (.mv (.s 19))⟩])
  (.seq (.region [⟨none, (some 20), .inl (.mv (.s 1))⟩,
    ⟨none, (some 21), .inl (.len (.s 20))⟩,
    ⟨none, (some 22), .inl (.mv (.c (.int .i64 0)))⟩])
  (.block 2 (.loop k47l0)))))
  (.region [⟨none, (some 66), .inl (.bin .add (.s 15) (.c (.int .i64 1)))⟩,
    ⟨none, (some 15), .inl (.mv (.s 66))⟩])))
/-- gyttja/ash.pileOf -/
def k47 : Cd :=
  .seq (.region [⟨none, (some 4), .inl (.alloc 92 [(.int .i64 0), (.int .u64 0), (.int .u64 0), (.int .u64 0), (.int .u64 0), (.int .u64 0), (.int .u64 0), (.int .u64 0), (.int .u64 0), (.int .u64 0)])⟩])
  (.seq (.region [⟨none, (some 10), .inl (.mv (.s 1))⟩,
    ⟨none, (some 11), .inr (.fn 65 [(.s 10)])⟩,
    ⟨none, (some 12), .inl (.bld [(.int .i64 0), (.int .u64 0), (.int .u64 0), (.int .u64 0), (.int .u64 0), (.int .u64 0), (.int .u64 0), (.int .u64 0), (.int .u64 0), (.int .u64 0)] [(0, 1, (.s 11))])⟩,
    ⟨none, (some 5), .inl (.alloc 92 [(.int .i64 0), (.int .u64 0), (.int .u64 0), (.int .u64 0), (.int .u64 0), (.int .u64 0), (.int .u64 0), (.int .u64 0), (.int .u64 0), (.int .u64 0)])⟩,
    ⟨none, none, .inl (.st 10 (.s 5) (.s 12))⟩])
  (.seq (.seq (.region [⟨none, (some 13), .inl (.mv (.s 1))⟩,
    ⟨none, (some 14), .inl (.len (.s 13))⟩,
    ⟨none, (some 15), .inl (.mv (.c (.int .i64 0)))⟩])
  (.block 0 (.loop k47l1)))
  (.seq (.region [⟨none, (some 67), .inl (.ld true 10 (.s 5))⟩,
    ⟨none, none, .inl (.st 10 (.s 4) (.s 67))⟩])
  (.ret))))
def k48l0 : Cd :=
  .seq (.region [⟨none, (some 13), .inl (.bin .lss (.s 12) (.s 11))⟩])
  (.seq (.cond (.s 13) (.skip)
  (.exit 0))
  (.seq (.block 1 (.seq (.region [⟨none, (some 14), .inl (.mv (.s 12))⟩,
    ⟨none, (some 5), .inl (.mv (.s 14))⟩])
  (.seq (.region [⟨none, (some 15), .inl (.ld true 10 (.s 1))⟩,
    ⟨none, (some 16), .inl (.mv (.s 5))⟩,
    ⟨none, (some 17), .inr (.fn 66 [(.s 15), (.s 16)])⟩,
    ⟨none, (some 6), .inl (.alloc 110 [(.int .i64 0), (.int .i64 0), (.int .i64 0), (.int .i64 0), (.int .i64 0), (.int .i64 0), (.int .i64 0), (.int .i64 0), (.int .i64 0)])⟩,
    ⟨none, none, .inl (.st 9 (.s 6) (.s 17))⟩])
  (.seq (.draw [⟨⟨none, (some 18), .inl (.mv (.s 5))⟩, (some []), [], 0, false⟩,
    ⟨⟨none, (some 19), .inl (.iaa 9 1 (.s 6) (.s 18))⟩, (some []), [], 1, false⟩,
    ⟨⟨none, (some 20), .inl (.ld false 1 (.s 19))⟩, (some []), [], 3, false⟩,
    ⟨⟨none, (some 21), .inl (.bin .gtr (.s 20) (.c (.int .i64 0)))⟩, (some []), [], 7, false⟩,
    ⟨⟨none, (some 22), .inl (.mv (.s 21))⟩, (some []), [], 15, false⟩,
    ⟨⟨(some (22, true)), (some 23), .inl (.mv (.s 3))⟩, (some []), [], 31, false⟩,
    ⟨⟨(some (22, true)), (some 24), .inl (.len (.s 23))⟩, (some []), [], 63, false⟩,
    ⟨⟨(some (22, true)), (some 25), .inl (.bin .eql (.s 24) (.c (.int .i64 0)))⟩, (some []), [], 127, false⟩,
    ⟨⟨(some (22, true)), (some 26), .inl (.mv (.s 25))⟩, (some []), [], 255, false⟩,
    ⟨⟨(some (26, false)), (some 27), .inl (.mv (.s 5))⟩, (some []), [], 511, false⟩,
    ⟨⟨(some (26, false)), (some 28), .inl (.iaa 9 1 (.s 6) (.s 27))⟩, (some []), [], 1023, false⟩,
    ⟨⟨(some (26, false)), (some 29), .inl (.ld false 1 (.s 28))⟩, (some []), [], 2047, false⟩,
    ⟨⟨(some (26, false)), (some 30), .inl (.mv (.s 3))⟩, (some []), [], 511, false⟩,
    ⟨⟨(some (26, false)), (some 31), .inl (.ias 1 (.s 30) (.c (.int .i64 0)))⟩, (some []), [], 4607, false⟩,
    ⟨⟨(some (26, false)), (some 32), .inl (.ld false 1 (.s 31))⟩, (some []), [], 12799, false⟩,
    ⟨⟨(some (26, false)), (some 33), .inl (.iaa 9 1 (.s 4) (.s 32))⟩, (some []), [], 29183, false⟩,
    ⟨⟨(some (26, false)), (some 34), .inl (.ld false 1 (.s 33))⟩, (some []), [], 61951, false⟩,
    ⟨⟨(some (26, false)), (some 35), .inl (.bin .lss (.s 29) (.s 34))⟩, (some []), [], 131071, false⟩,
    ⟨⟨(some (22, true)), (some 36), .inl (.pick (.s 26) (.c (.bool true)) (.s 35))⟩, (some []), [], 262143, false⟩,
    ⟨⟨none, (some 37), .inl (.pick (.s 22) (.s 36) (.c (.bool false)))⟩, (some []), [], 524287, false⟩])
  (.cond (.s 37) (.draw [⟨⟨none, (some 38), .inl (.mv (.s 5))⟩, (some []), [], 0, false⟩,
     ⟨⟨none, (some 39), .inl (.bs 3 1 1 [(.int .i64 0)] [(0, (.s 38))])⟩, (some [.fr 39]), [], 1, false⟩,
     ⟨⟨none, (some 40), .inl (.ld true 9 (.s 6))⟩, (some []), [.fr 39], 0, false⟩,
     ⟨⟨none, (some 3), .inl (.mv (.s 39))⟩, (some []), [], 3, false⟩,
     ⟨⟨none, none, .inl (.st 9 (.s 4) (.s 40))⟩, (some [.at 4]), [], 15, false⟩])
  (.skip))))))
  (.region [⟨none, (some 41), .inl (.bin .add (.s 12) (.c (.int .i64 1)))⟩,
    ⟨none, (some 12), .inl (.mv (.s 41))⟩])))
def k48l1 : Cd :=
  .seq (.region [⟨none, (some 64), .inl (.bin .lss (.s 63) (.s 62))⟩])
  (.seq (.cond (.s 64) (.skip)
  (.exit 4))
  (.seq (.block 5 (.seq (.region [⟨none, (some 65), .inl (.mv (.s 63))⟩,
    ⟨none, (some 9), .inl (.mv (.s 65))⟩])
  (.seq (.region [⟨none, (some 66), .inl (.mv (.s 9))⟩,
    ⟨none, (some 67), .inl (.fa (.s 1) 1)⟩,
    ⟨none, (some 68), .inl (.iaa 9 1 (.s 67) (.s 66))⟩,
    ⟨none, (some 69), .inl (.ld false 1 (.s 68))⟩,
    ⟨none, (some 70), .inl (.mv (.s 8))⟩,
    ⟨none, (some 71), .inr (.fn 67 [(.s 69), (.s 70)])⟩,
    ⟨none, (some 72), .inl (.mv (.s 71))⟩,
    ⟨(some (72, true)), (some 73), .inl (.mv (.s 9))⟩,
    ⟨(some (72, true)), (some 74), .inl (.iaa 9 1 (.s 4) (.s 73))⟩,
    ⟨(some (72, true)), (some 75), .inl (.ld false 1 (.s 74))⟩,
    ⟨(some (72, true)), (some 76), .inl (.mv (.s 7))⟩,
    ⟨(some (72, true)), (some 77), .inl (.bin .eql (.s 75) (.s 76))⟩,
    ⟨none, (some 78), .inl (.pick (.s 72) (.s 77) (.c (.bool false)))⟩])
  (.cond (.s 78) (.seq (.region [⟨none, (some 79), .inl (.mv (.s 3))⟩,
     ⟨none, (some 80), .inl (.mv (.s 9))⟩,
     ⟨none, (some 81), .inl (.bs 3 1 1 [(.int .i64 0)] [(0, (.s 80))])⟩,
     ⟨none, (some 82), .inl (.app 3 1 8 (.s 79) (.s 81))⟩,
     ⟨none, (some 3), .inl (.mv (.s 82))⟩])
   (.exit 4))
  (.skip)))))
  (.region [⟨none, (some 83), .inl (.bin .add (.s 63) (.c (.int .i64 1)))⟩,
    ⟨none, (some 63), .inl (.mv (.s 83))⟩])))
def k48l2 : Cd :=
  .seq (.seq (.region [⟨none, (some 51), .inl (.mv (.s 7))⟩,
    ⟨none, (some 52), .inl (.bin .gtr (.s 51) (.c (.int .i64 0)))⟩])
  (.cond (.s 52) (.skip)
  (.exit 2)))
  (.seq (.block 3 (.seq (.region [⟨none, (some 55), .inl (.mv (.s 3))⟩,
    ⟨none, (some 56), .inl (.mv (.s 3))⟩,
    ⟨none, (some 57), .inl (.len (.s 56))⟩,
    ⟨none, (some 58), .inl (.bin .sub (.s 57) (.c (.int .i64 1)))⟩,
    ⟨none, (some 59), .inl (.ias 1 (.s 55) (.s 58))⟩,
    ⟨none, (some 60), .inl (.ld false 1 (.s 59))⟩,
    ⟨none, (some 8), .inl (.mv (.s 60))⟩])
  (.seq (.region [⟨none, (some 61), .inl (.fa (.s 1) 0)⟩,
    ⟨none, (some 62), .inl (.ld false 1 (.s 61))⟩,
    ⟨none, (some 63), .inl (.mv (.c (.int .i64 0)))⟩])
  (.block 4 (.loop k48l1)))))
  (.region [⟨none, (some 53), .inl (.mv (.s 7))⟩,
    ⟨none, (some 54), .inl (.bin .sub (.s 53) (.c (.int .i64 1)))⟩,
    ⟨none, (some 7), .inl (.mv (.s 54))⟩]))
/-- (gyttja/ash.pile).round -/
def k48 : Cd :=
  .seq (.region [⟨none, (some 1), .inl (.box 92 10 (.s 0))⟩,
    ⟨none, (some 2), .inl (.mv (.c (.slice none 0 0)))⟩])
  (.seq (.region [⟨none, (some 3), .inl (.mv (.c (.slice none 0 0)))⟩])
  (.seq (.region [⟨none, (some 4), .inl (.alloc 110 [(.int .i64 0), (.int .i64 0), (.int .i64 0), (.int .i64 0), (.int .i64 0), (.int .i64 0), (.int .i64 0), (.int .i64 0), (.int .i64 0)])⟩])
  (.seq (.seq (.region [⟨none, (some 10), .inl (.fa (.s 1) 0)⟩,
    ⟨none, (some 11), .inl (.ld false 1 (.s 10))⟩,
    ⟨none, (some 12), .inl (.mv (.c (.int .i64 0)))⟩])
  (.block 0 (.loop k48l0)))
  (.seq (.seq (.region [⟨none, (some 42), .inl (.mv (.s 3))⟩,
    ⟨none, (some 43), .inl (.len (.s 42))⟩,
    ⟨none, (some 44), .inl (.bin .eql (.s 43) (.c (.int .i64 0)))⟩])
  (.cond (.s 44) (.seq (.region [⟨none, (some 2), .inl (.mv (.c (.slice none 0 0)))⟩])
   (.ret))
  (.skip)))
  (.seq (.seq (.region [⟨none, (some 45), .inl (.mv (.s 3))⟩,
    ⟨none, (some 46), .inl (.ias 1 (.s 45) (.c (.int .i64 0)))⟩,
    ⟨none, (some 47), .inl (.ld false 1 (.s 46))⟩,
    ⟨none, (some 48), .inl (.iaa 9 1 (.s 4) (.s 47))⟩,
    ⟨none, (some 49), .inl (.ld false 1 (.s 48))⟩,
    ⟨none, (some 50), .inl (.bin .sub (.s 49) (.c (.int .i64 1)))⟩,
    ⟨none, (some 7), .inl (.mv (.s 50))⟩])
  (.block 2 (.loop k48l2)))
  (.seq (.region [⟨none, (some 84), .inl (.mv (.s 3))⟩,
    ⟨none, (some 2), .inl (.mv (.s 84))⟩])
  (.ret)))))))
/-- (gyttja/ash.dealer).isOneCore -/
def k49 : Cd :=
  .seq (.region [⟨none, (some 3), .inl (.box 82 164 (.s 0))⟩,
    ⟨none, (some 6), .inl (.mv (.c (.bool false)))⟩])
  (.seq (.draw [⟨⟨none, (some 7), .inl (.fa (.s 3) 0)⟩, (some []), [], 0, false⟩,
    ⟨⟨none, (some 8), .inl (.ld false 1 (.s 7))⟩, (some []), [], 1, false⟩,
    ⟨⟨none, (some 9), .inl (.mv (.s 1))⟩, (some []), [], 0, false⟩,
    ⟨⟨none, (some 10), .inl (.ias 8 (.s 8) (.s 9))⟩, (some []), [], 7, false⟩,
    ⟨⟨none, (some 11), .inl (.ld true 8 (.s 10))⟩, (some []), [], 15, false⟩,
    ⟨⟨none, (some 12), .inr (.fn 61 [(.s 11)])⟩, (some []), [], 31, false⟩,
    ⟨⟨none, (some 13), .inl (.fa (.s 3) 0)⟩, (some []), [], 0, false⟩,
    ⟨⟨none, (some 14), .inl (.ld false 1 (.s 13))⟩, (some []), [], 64, false⟩,
    ⟨⟨none, (some 15), .inl (.mv (.s 2))⟩, (some []), [], 0, false⟩,
    ⟨⟨none, (some 16), .inl (.ias 8 (.s 14) (.s 15))⟩, (some []), [], 448, false⟩,
    ⟨⟨none, (some 17), .inl (.ld true 8 (.s 16))⟩, (some []), [], 960, false⟩,
    ⟨⟨none, (some 18), .inr (.fn 61 [(.s 17)])⟩, (some []), [], 2047, false⟩,
    ⟨⟨none, (some 19), .inl (.bin .eql (.s 12) (.s 18))⟩, (some []), [], 4095, false⟩,
    ⟨⟨none, (some 6), .inl (.mv (.s 19))⟩, (some []), [], 8191, false⟩])
  (.ret))
/-- (gyttja/ash.dealer).isUnlike -/
def k50 : Cd :=
  .seq (.region [⟨none, (some 3), .inl (.box 82 164 (.s 0))⟩,
    ⟨none, (some 6), .inl (.mv (.c (.bool false)))⟩])
  (.seq (.draw [⟨⟨none, (some 7), .inl (.fa (.s 3) 0)⟩, (some []), [], 0, false⟩,
    ⟨⟨none, (some 8), .inl (.ld false 1 (.s 7))⟩, (some []), [], 1, false⟩,
    ⟨⟨none, (some 9), .inl (.mv (.s 1))⟩, (some []), [], 0, false⟩,
    ⟨⟨none, (some 10), .inl (.ias 8 (.s 8) (.s 9))⟩, (some []), [], 7, false⟩,
    ⟨⟨none, (some 11), .inl (.ld true 8 (.s 10))⟩, (some []), [], 15, false⟩,
    ⟨⟨none, (some 12), .inl (.fa (.s 3) 0)⟩, (some []), [], 0, false⟩,
    ⟨⟨none, (some 13), .inl (.ld false 1 (.s 12))⟩, (some []), [], 32, false⟩,
    ⟨⟨none, (some 14), .inl (.mv (.s 2))⟩, (some []), [], 0, false⟩,
    ⟨⟨none, (some 15), .inl (.ias 8 (.s 13) (.s 14))⟩, (some []), [], 224, false⟩,
    ⟨⟨none, (some 16), .inl (.ld true 8 (.s 15))⟩, (some []), [], 480, false⟩,
    ⟨⟨none, (some 17), .inr (.fn 9 [(.s 11), (.s 16)])⟩, (some []), [], 1023, false⟩,
    ⟨⟨none, (some 18), .inl (.not (.s 17))⟩, (some []), [], 2047, false⟩,
    ⟨⟨none, (some 6), .inl (.mv (.s 18))⟩, (some []), [], 4095, false⟩])
  (.ret))
/-- (gyttja/ash.dealer).isTiedApart -/
def k51 : Cd :=
  .seq (.region [⟨none, (some 3), .inl (.box 82 164 (.s 0))⟩,
    ⟨none, (some 6), .inl (.mv (.c (.bool false)))⟩])
  (.seq (.region [⟨none, (some 7), .inl (.fa (.s 3) 163)⟩,
    ⟨none, none, .inl (.st 1 (.s 7) (.c (.bool true)))⟩])
  (.seq (.region [⟨none, (some 8), .inl (.ld true 164 (.s 3))⟩,
    ⟨none, (some 9), .inl (.mv (.s 1))⟩,
    ⟨none, (some 10), .inl (.mv (.s 2))⟩,
    ⟨none, (some 11), .inr (.fn 52 [(.s 8), (.s 9), (.s 10)])⟩,
    ⟨none, (some 6), .inl (.mv (.s 11))⟩])
  (.ret)))
def k52l0 : Cd :=
  .skip
def k52l1 : Cd :=
  .block 1 (.seq (.region [⟨none, none, .inl (.st 1 (.s 6) (.c (.bool false)))⟩])
  (.ret))
/-- (gyttja/ash.dealer).isNever -/
def k52 : Cd :=
  .seq (.region [⟨none, (some 3), .inl (.box 82 164 (.s 0))⟩,
    ⟨none, (some 6), .inl (.alloc 4 [(.bool false)])⟩])
  (.seq (.region [⟨none, (some 7), .inl (.mv (.s 1))⟩,
    ⟨none, (some 8), .inl (.mv (.s 2))⟩,
    ⟨none, (some 9), .inl (.fa (.s 3) 82)⟩,
    ⟨none, (some 10), .inl (.iaa 9 9 (.s 9) (.s 7))⟩,
    ⟨none, (some 11), .inl (.iaa 9 1 (.s 10) (.s 8))⟩,
    ⟨none, none, .inl (.st 1 (.s 11) (.c (.bool true)))⟩])
  (.seq (.seq (.region [⟨none, (some 12), .inl (.ld true 164 (.s 3))⟩,
    ⟨none, (some 13), .inr (.fn 46 [(.s 12), (.c (.slice none 0 0))])⟩])
  (.block 0 (.rangeF (.s 13) [14] k52l0 k52l1)))
  (.seq (.region [⟨none, none, .inl (.st 1 (.s 6) (.c (.bool true)))⟩])
  (.ret))))
def k53l0 : Cd :=
  .seq (.region [⟨none, (some 8), .inl (.bin .lss (.s 7) (.c (.int .i64 3)))⟩])
  (.seq (.cond (.s 8) (.skip)
  (.exit 0))
  (.seq (.block 1 (.seq (.region [⟨none, (some 9), .inl (.ixa true 2 3 (.s 6) (.s 7))⟩,
    ⟨none, (some 4), .inl (.alloc 25 [(.int .i64 0), (.int .i64 0)])⟩,
    ⟨none, none, .inl (.st 2 (.s 4) (.s 9))⟩])
  (.seq (.region [⟨none, (some 10), .inl (.fa (.s 4) 0)⟩,
    ⟨none, (some 11), .inl (.ld false 1 (.s 10))⟩,
    ⟨none, (some 12), .inl (.bin .lss (.s 11) (.c (.int .i64 0)))⟩,
    ⟨none, (some 13), .inl (.mv (.s 12))⟩,
    ⟨(some (13, false)), (some 14), .inl (.fa (.s 4) 0)⟩,
    ⟨(some (13, false)), (some 15), .inl (.ld false 1 (.s 14))⟩,
    ⟨(some (13, false)), (some 16), .inl (.fa (.s 4) 1)⟩,
    ⟨(some (13, false)), (some 17), .inl (.ld false 1 (.s 16))⟩,
    ⟨(some (13, false)), (some 18), .inl (.bin .gtr (.s 15) (.s 17))⟩,
    ⟨none, (some 19), .inl (.pick (.s 13) (.c (.bool true)) (.s 18))⟩,
    ⟨none, (some 20), .inl (.mv (.s 19))⟩,
    ⟨(some (20, false)), (some 21), .inl (.fa (.s 4) 1)⟩,
    ⟨(some (20, false)), (some 22), .inl (.ld false 1 (.s 21))⟩,
    ⟨(some (20, false)), (some 23), .inl (.bin .gtr (.s 22) (.c (.int .i64 10000)))⟩,
    ⟨none, (some 24), .inl (.pick (.s 20) (.c (.bool true)) (.s 23))⟩])
  (.cond (.s 24) (.seq (.region [⟨none, (some 2), .inl (.mv (.c (.bool false)))⟩])
   (.ret))
  (.skip)))))
  (.region [⟨none, (some 25), .inl (.bin .add (.s 7) (.c (.int .i64 1)))⟩,
    ⟨none, (some 7), .inl (.mv (.s 25))⟩])))
/-- gyttja/ash.isAsh -/
def k53 : Cd :=
  .seq (.region [⟨none, (some 1), .inl (.box 31 8 (.s 0))⟩,
    ⟨none, (some 2), .inl (.mv (.c (.bool false)))⟩])
  (.seq (.seq (.region [⟨none, (some 5), .inl (.fa (.s 1) 2)⟩,
    ⟨none, (some 6), .inl (.ld true 6 (.s 5))⟩,
    ⟨none, (some 7), .inl (.mv (.c (.int .i64 0)))⟩])
  (.block 0 (.loop k53l0)))
  (.seq (.region [⟨none, (some 26), .inl (.fa (.s 1) 0)⟩,
    ⟨none, (some 27), .inl (.ld false 1 (.s 26))⟩,
    ⟨none, (some 28), .inr (.fn 37 [(.s 27), (.c (.int .i64 1)), (.c (.int .i64 99999))])⟩,
    ⟨none, (some 29), .inl (.mv (.s 28))⟩,
    ⟨(some (29, true)), (some 30), .inl (.fa (.s 1) 1)⟩,
    ⟨(some (29, true)), (some 31), .inl (.ld false 1 (.s 30))⟩,
    ⟨(some (29, true)), (some 32), .inr (.fn 37 [(.s 31), (.c (.int .i64 1)), (.c (.int .i64 2048))])⟩,
    ⟨none, (some 33), .inl (.pick (.s 29) (.s 32) (.c (.bool false)))⟩,
    ⟨none, (some 2), .inl (.mv (.s 33))⟩])
  (.ret)))
def k57l0 : Cd :=
  .seq (.region [⟨none, (some 43), .inl (.bin .lss (.s 42) (.s 41))⟩])
  (.seq (.cond (.s 43) (.skip)
  (.exit 2))
  (.seq (.block 3 (.seq (.region [⟨none, (some 44), .inl (.ias 1 (.s 40) (.s 42))⟩,
    ⟨none, (some 45), .inl (.ld false 1 (.s 44))⟩,
    ⟨none, (some 12), .inl (.mv (.s 45))⟩])
  (.seq (.region [⟨none, (some 47), .inl (.mv (.s 0))⟩,
    ⟨none, (some 48), .inl (.mv (.s 12))⟩,
    ⟨none, (some 49), .inr (.fn 74 [(.s 47), (.s 48)])⟩,
    ⟨none, (some 46), .inl (.mv (.s 49))⟩,
    ⟨none, (some 50), .inl (.ex (.s 46) 0)⟩,
    ⟨none, (some 51), .inl (.ex (.s 46) 1)⟩,
    ⟨none, (some 13), .inl (.mv (.s 50))⟩,
    ⟨none, (some 14), .inl (.mv (.s 51))⟩])
  (.seq (.seq (.region [⟨none, (some 52), .inl (.mv (.s 14))⟩,
    ⟨none, (some 53), .inl (.not (.s 52))⟩,
    ⟨none, (some 54), .inl (.mv (.s 53))⟩,
    ⟨(some (54, false)), (some 55), .inl (.mv (.s 12))⟩,
    ⟨(some (54, false)), (some 56), .inl (.mv (.s 10))⟩,
    ⟨(some (54, false)), (some 57), .inl (.bin .leq (.s 55) (.s 56))⟩,
    ⟨none, (some 58), .inl (.pick (.s 54) (.c (.bool true)) (.s 57))⟩])
  (.cond (.s 58) (.seq (.region [⟨none, (some 4), .inl (.mv (.c (.slice none 0 0)))⟩,
     ⟨none, (some 5), .inl (.mv (.c (.bool false)))⟩])
   (.ret))
  (.skip)))
  (.seq (.region [⟨none, (some 59), .inl (.mv (.s 12))⟩,
    ⟨none, (some 10), .inl (.mv (.s 59))⟩])
  (.seq (.seq (.region [⟨none, (some 60), .inl (.mv (.s 6))⟩,
    ⟨none, (some 61), .inl (.mv (.s 13))⟩,
    ⟨none, (some 62), .inl (.ias 1 (.s 60) (.s 61))⟩,
    ⟨none, (some 63), .inl (.ld false 1 (.s 62))⟩,
    ⟨none, (some 64), .inl (.bin .neq (.s 63) (.c (.int .i64 (-1))))⟩])
  (.cond (.s 64) (.seq (.region [⟨none, (some 4), .inl (.mv (.c (.slice none 0 0)))⟩,
     ⟨none, (some 5), .inl (.mv (.c (.bool false)))⟩])
   (.ret))
  (.skip)))
  (.region [⟨none, (some 65), .inl (.mv (.s 6))⟩,
    ⟨none, (some 66), .inl (.mv (.s 13))⟩,
    ⟨none, (some 67), .inl (.mv (.s 8))⟩,
    ⟨none, (some 68), .inl (.ias 1 (.s 65) (.s 66))⟩,
    ⟨none, none, .inl (.st 1 (.s 68) (.s 67))⟩])))))))
  (.region [⟨none, (some 69), .inl (.bin .add (.s 42) (.c (.int .i64 1)))⟩,
    ⟨none, (some 42), .inl (.mv (.s 69))⟩])))
def k57l1 : Cd :=
  .seq (.region [⟨none, (some 23), .inl (.bin .lss (.s 22) (.s 21))⟩])
  (.seq (.cond (.s 23) (.skip)
  (.exit 0))
  (.seq (.block 1 (.seq (.region [⟨none, (some 24), .inl (.mv (.s 22))⟩,
    ⟨none, (some 25), .inl (.ias 1 (.s 20) (.s 22))⟩,
    ⟨none, (some 26), .inl (.ld false 1 (.s 25))⟩,
    ⟨none, (some 8), .inl (.mv (.s 24))⟩,
    ⟨none, (some 9), .inl (.mv (.s 26))⟩])
  (.seq (.seq (.region [⟨none, (some 27), .inl (.mv (.s 9))⟩,
    ⟨none, (some 28), .inl (.len (.s 27))⟩,
    ⟨none, (some 29), .inl (.bin .eql (.s 28) (.c (.int .i64 0)))⟩,
    ⟨none, (some 30), .inl (.mv (.s 29))⟩,
    ⟨(some (30, false)), (some 31), .inl (.mv (.s 9))⟩,
    ⟨(some (30, false)), (some 32), .inl (.ias 1 (.s 31) (.c (.int .i64 0)))⟩,
    ⟨(some (30, false)), (some 33), .inl (.ld false 1 (.s 32))⟩,
    ⟨(some (30, false)), (some 34), .inl (.mv (.s 7))⟩,
    ⟨(some (30, false)), (some 35), .inl (.bin .leq (.s 33) (.s 34))⟩,
    ⟨none, (some 36), .inl (.pick (.s 30) (.c (.bool true)) (.s 35))⟩])
  (.cond (.s 36) (.seq (.region [⟨none, (some 4), .inl (.mv (.c (.slice none 0 0)))⟩,
     ⟨none, (some 5), .inl (.mv (.c (.bool false)))⟩])
   (.ret))
  (.skip)))
  (.seq (.region [⟨none, (some 37), .inl (.mv (.s 9))⟩,
    ⟨none, (some 38), .inl (.ias 1 (.s 37) (.c (.int .i64 0)))⟩,
    ⟨none, (some 39), .inl (.ld false 1 (.s 38))⟩,
    ⟨none, (some 7), .inl (.mv (.s 39))⟩])
  (.seq (.region [⟨none, (some 10), .inl (.mv (.c (.int .i64 0)))⟩])
  (.seq (.region [⟨none, (some 40), .inl (.mv (.s 9))⟩,
    ⟨none, (some 41), .inl (.len (.s 40))⟩,
    ⟨none, (some 42), .inl (.mv (.c (.int .i64 0)))⟩])
  (.block 2 (.loop k57l0))))))))
  (.region [⟨none, (some 70), .inl (.bin .add (.s 22) (.c (.int .i64 1)))⟩,
    ⟨none, (some 22), .inl (.mv (.s 70))⟩])))
/-- gyttja/ash.growthOf -/
def k57 : Cd :=
  .seq (.region [⟨none, (some 3), .inl (.box 40 1 (.s 1))⟩,
    ⟨none, (some 4), .inl (.mv (.c (.slice none 0 0)))⟩,
    ⟨none, (some 5), .inl (.mv (.c (.bool false)))⟩])
  (.seq (.region [⟨none, (some 15), .inl (.bs 3 1 1 [(.int .i64 0)] [(0, (.c (.int .i64 (-1))))])⟩,
    ⟨none, (some 16), .inl (.mv (.s 0))⟩,
    ⟨none, (some 17), .inl (.len (.s 16))⟩,
    ⟨none, (some 18), .inr (.fn 73 [(.s 15), (.s 17)])⟩,
    ⟨none, (some 6), .inl (.mv (.s 18))⟩])
  (.seq (.region [⟨none, (some 7), .inl (.mv (.c (.int .i64 0)))⟩])
  (.seq (.seq (.region [⟨none, (some 19), .inl (.fa (.s 3) 0)⟩,
    ⟨none, (some 20), .inl (.ld false 1 (.s 19))⟩,
    ⟨none, (some 21), .inl (.len (.s 20))⟩,
    ⟨none, (some 22), .inl (.mv (.c (.int .i64 0)))⟩])
  (.block 0 (.loop k57l1)))
  (.seq (.region [⟨none, (some 71), .inl (.mv (.s 6))⟩,
    ⟨none, (some 72), .inl (.mv (.s 6))⟩,
    ⟨none, (some 73), .inr (.fn 75 [(.s 72), (.c (.int .i64 (-1)))])⟩,
    ⟨none, (some 74), .inl (.not (.s 73))⟩,
    ⟨none, (some 4), .inl (.mv (.s 71))⟩,
    ⟨none, (some 5), .inl (.mv (.s 74))⟩])
  (.ret)))))
def k59l0 : Cd :=
  .seq (.region [⟨none, (some 9), .inl (.bin .lss (.s 8) (.s 7))⟩])
  (.seq (.cond (.s 9) (.skip)
  (.exit 0))
  (.seq (.block 1 (.seq (.region [⟨none, (some 10), .inl (.ias 8 (.s 6) (.s 8))⟩,
    ⟨none, (some 11), .inl (.ld true 8 (.s 10))⟩,
    ⟨none, (some 5), .inl (.alloc 31 [(.int .i64 0), (.int .i64 0), (.int .i64 0), (.int .i64 0), (.int .i64 0), (.int .i64 0), (.int .i64 0), (.int .i64 0)])⟩,
    ⟨none, none, .inl (.st 8 (.s 5) (.s 11))⟩])
  (.region [⟨none, (some 12), .inl (.mv (.s 3))⟩,
    ⟨none, (some 13), .inl (.fa (.s 5) 0)⟩,
    ⟨none, (some 14), .inl (.ld false 1 (.s 13))⟩,
    ⟨none, (some 15), .inl (.bs 3 1 1 [(.int .i64 0)] [(0, (.s 14))])⟩,
    ⟨none, (some 16), .inl (.app 3 1 8 (.s 12) (.s 15))⟩,
    ⟨none, (some 3), .inl (.mv (.s 16))⟩])))
  (.region [⟨none, (some 17), .inl (.bin .add (.s 8) (.c (.int .i64 1)))⟩,
    ⟨none, (some 8), .inl (.mv (.s 17))⟩])))
/-- gyttja/ash.idsOf -/
def k59 : Cd :=
  .seq (.region [⟨none, (some 2), .inl (.mv (.c (.slice none 0 0)))⟩])
  (.seq (.region [⟨none, (some 3), .inl (.mv (.c (.slice none 0 0)))⟩])
  (.seq (.seq (.region [⟨none, (some 6), .inl (.mv (.s 0))⟩,
    ⟨none, (some 7), .inl (.len (.s 6))⟩,
    ⟨none, (some 8), .inl (.mv (.c (.int .i64 0)))⟩])
  (.block 0 (.loop k59l0)))
  (.seq (.region [⟨none, (some 18), .inl (.mv (.s 3))⟩,
    ⟨none, (some 2), .inl (.mv (.s 18))⟩])
  (.ret))))
def k60l0 : Cd :=
  .seq (.region [⟨none, (some 19), .inl (.bin .lss (.s 18) (.s 17))⟩])
  (.seq (.cond (.s 19) (.skip)
  (.exit 0))
  (.seq (.block 1 (.seq (.region [⟨none, (some 20), .inl (.ias 3 (.s 16) (.s 18))⟩,
    ⟨none, (some 21), .inl (.ld true 3 (.s 20))⟩,
    ⟨none, (some 7), .inl (.alloc 62 [(.int .i64 0), (.int .i64 0), (.bool false)])⟩,
    ⟨none, none, .inl (.st 3 (.s 7) (.s 21))⟩])
  (.seq (.region [⟨none, (some 22), .inl (.mv (.s 0))⟩,
    ⟨none, (some 23), .inl (.fa (.s 7) 0)⟩,
    ⟨none, (some 24), .inl (.ld false 1 (.s 23))⟩,
    ⟨none, (some 25), .inr (.fn 39 [(.s 22), (.s 24)])⟩,
    ⟨none, (some 26), .inl (.bin .eql (.s 25) (.c (.int .i64 (-1))))⟩,
    ⟨none, (some 27), .inl (.mv (.s 26))⟩,
    ⟨(some (27, false)), (some 28), .inl (.mv (.s 0))⟩,
    ⟨(some (27, false)), (some 29), .inl (.fa (.s 7) 1)⟩,
    ⟨(some (27, false)), (some 30), .inl (.ld false 1 (.s 29))⟩,
    ⟨(some (27, false)), (some 31), .inr (.fn 39 [(.s 28), (.s 30)])⟩,
    ⟨(some (27, false)), (some 32), .inl (.bin .eql (.s 31) (.c (.int .i64 (-1))))⟩,
    ⟨none, (some 33), .inl (.pick (.s 27) (.c (.bool true)) (.s 32))⟩,
    ⟨none, (some 34), .inl (.mv (.s 33))⟩,
    ⟨(some (34, false)), (some 35), .inl (.fa (.s 7) 0)⟩,
    ⟨(some (34, false)), (some 36), .inl (.ld false 1 (.s 35))⟩,
    ⟨(some (34, false)), (some 37), .inl (.fa (.s 7) 1)⟩,
    ⟨(some (34, false)), (some 38), .inl (.ld false 1 (.s 37))⟩,
    ⟨(some (34, false)), (some 39), .inl (.bin .geq (.s 36) (.s 38))⟩,
    ⟨none, (some 40), .inl (.pick (.s 34) (.c (.bool true)) (.s 39))⟩])
  (.cond (.s 40) (.seq (.region [⟨none, (some 4), .inl (.mv (.c (.int .i64 41)))⟩])
   (.ret))
  (.skip)))))
  (.region [⟨none, (some 41), .inl (.bin .add (.s 18) (.c (.int .i64 1)))⟩,
    ⟨none, (some 18), .inl (.mv (.s 41))⟩])))
/-- gyttja/ash.CheckTies -/
def k60 : Cd :=
  .seq (.region [⟨none, (some 4), .inl (.mv (.c (.int .i64 0)))⟩])
  (.seq (.seq (.region [⟨none, (some 8), .inl (.mv (.s 0))⟩,
    ⟨none, (some 9), .inr (.fn 26 [(.s 8)])⟩,
    ⟨none, (some 5), .inl (.mv (.s 9))⟩])
  (.seq (.region [⟨none, (some 10), .inl (.mv (.s 5))⟩,
    ⟨none, (some 11), .inl (.bin .neq (.s 10) (.c (.int .i64 0)))⟩])
  (.cond (.s 11) (.seq (.region [⟨none, (some 12), .inl (.mv (.s 5))⟩,
     ⟨none, (some 4), .inl (.mv (.s 12))⟩])
   (.ret))
  (.skip))))
  (.seq (.seq (.region [⟨none, (some 13), .inl (.mv (.s 1))⟩,
    ⟨none, (some 14), .inl (.len (.s 13))⟩,
    ⟨none, (some 15), .inl (.bin .gtr (.s 14) (.c (.int .i64 60)))⟩])
  (.cond (.s 15) (.seq (.region [⟨none, (some 4), .inl (.mv (.c (.int .i64 41)))⟩])
   (.ret))
  (.skip)))
  (.seq (.seq (.region [⟨none, (some 16), .inl (.mv (.s 1))⟩,
    ⟨none, (some 17), .inl (.len (.s 16))⟩,
    ⟨none, (some 18), .inl (.mv (.c (.int .i64 0)))⟩])
  (.block 0 (.loop k60l0)))
  (.seq (.region [⟨none, (some 4), .inl (.mv (.c (.int .i64 0)))⟩])
  (.ret)))))
/-- gyttja/ash.coreOf -/
def k61 : Cd :=
  .seq (.region [⟨none, (some 1), .inl (.box 31 8 (.s 0))⟩,
    ⟨none, (some 2), .inl (.mv (.c (.int .i64 0)))⟩])
  (.seq (.region [⟨none, (some 3), .inl (.fa (.s 1) 1)⟩,
    ⟨none, (some 4), .inl (.ld false 1 (.s 3))⟩,
    ⟨none, (some 5), .inl (.bin .sub (.s 4) (.c (.int .i64 1)))⟩,
    ⟨none, (some 6), .inl (.bin .quo (.s 5) (.c (.int .i64 64)))⟩,
    ⟨none, (some 2), .inl (.mv (.s 6))⟩])
  (.ret))
def k62l0 : Cd :=
  .block 1 (.seq (.block 2 (.seq (.region [⟨none, (some 8), .inl (.ld true 164 (.s 2))⟩,
    ⟨none, (some 9), .inl (.mv (.s 4))⟩,
    ⟨none, (some 10), .inr (.fn 63 [(.s 8), (.s 9)])⟩,
    ⟨none, (some 11), .inl (.not (.s 10))⟩,
    ⟨none, (some 7), .inl (.mv (.s 11))⟩])
  (.cond (.s 7) (.skip)
  (.seq (.region [⟨none, (some 13), .inl (.mv (.s 4))⟩,
     ⟨none, (some 14), .inl (.len (.s 13))⟩,
     ⟨none, (some 15), .inl (.mv (.s 5))⟩,
     ⟨none, (some 16), .inl (.len (.s 15))⟩,
     ⟨none, (some 17), .inl (.bin .lss (.s 14) (.s 16))⟩,
     ⟨none, (some 12), .inl (.mv (.s 17))⟩])
   (.cond (.s 12) (.seq (.region [⟨none, (some 18), .inl (.mv (.s 4))⟩,
      ⟨none, (some 19), .inl (.mv (.s 5))⟩,
      ⟨none, (some 20), .inl (.mv (.s 4))⟩,
      ⟨none, (some 21), .inl (.len (.s 20))⟩,
      ⟨none, (some 22), .inl (.ias 1 (.s 19) (.s 21))⟩,
      ⟨none, (some 23), .inl (.ld false 1 (.s 22))⟩,
      ⟨none, (some 24), .inl (.bs 3 1 1 [(.int .i64 0)] [(0, (.s 23))])⟩,
      ⟨none, (some 25), .inl (.app 3 1 8 (.s 18) (.s 24))⟩,
      ⟨none, (some 4), .inl (.mv (.s 25))⟩])
    (.exit 1))
   (.seq (.region [⟨none, (some 27), .inl (.mv (.s 4))⟩,
      ⟨none, (some 28), .inl (.len (.s 27))⟩,
      ⟨none, (some 29), .inl (.fa (.s 2) 0)⟩,
      ⟨none, (some 30), .inl (.ld false 1 (.s 29))⟩,
      ⟨none, (some 31), .inl (.len (.s 30))⟩,
      ⟨none, (some 32), .inl (.bin .lss (.s 28) (.s 31))⟩,
      ⟨none, (some 26), .inl (.mv (.s 32))⟩])
    (.cond (.s 26) (.seq (.region [⟨none, (some 33), .inl (.mv (.s 4))⟩,
       ⟨none, (some 34), .inl (.bs 3 1 1 [(.int .i64 0)] [(0, (.c (.int .i64 0)))])⟩,
       ⟨none, (some 35), .inl (.app 3 1 8 (.s 33) (.s 34))⟩,
       ⟨none, (some 4), .inl (.mv (.s 35))⟩])
     (.exit 1))
    (.seq (.region [⟨none, (some 37), .inl (.mv (.s 0))⟩,
       ⟨none, (some 38), .inl (.mv (.s 4))⟩,
       ⟨none, (some 39), .inr (.val (.s 37) [(.s 38)])⟩,
       ⟨none, (some 40), .inl (.not (.s 39))⟩,
       ⟨none, (some 36), .inl (.mv (.s 40))⟩])
     (.cond (.s 36) (.exit 0)
     (.skip))))))))))
  (.seq (.region [⟨none, (some 5), .inl (.mv (.c (.slice none 0 0)))⟩])
  (.seq (.region [⟨none, (some 41), .inl (.mv (.s 4))⟩,
    ⟨none, (some 42), .inr (.fn 64 [(.s 41)])⟩,
    ⟨none, (some 4), .inl (.mv (.s 42))⟩])
  (.seq (.region [⟨none, (some 43), .inl (.mv (.s 4))⟩,
    ⟨none, (some 44), .inl (.len (.s 43))⟩,
    ⟨none, (some 45), .inl (.bin .eql (.s 44) (.c (.int .i64 0)))⟩])
  (.cond (.s 45) (.exit 0)
  (.skip))))))
/-- (gyttja/ash.dealer).deals$1 -/
def k62 : Cd :=
  .scope (.seq (.region [⟨none, (some 4), .inl (.mv (.c (.slice none 0 0)))⟩])
  (.seq (.region [⟨none, (some 6), .inl (.ld false 1 (.s 1))⟩,
    ⟨none, (some 5), .inl (.mv (.s 6))⟩])
  (.seq (.skip)
  (.block 0 (.loop k62l0)))))
/-- (gyttja/ash.dealer).allows -/
def k63 : Cd :=
  .seq (.region [⟨none, (some 2), .inl (.box 82 164 (.s 0))⟩,
    ⟨none, (some 4), .inl (.mv (.c (.bool false)))⟩])
  (.seq (.seq (.region [⟨none, (some 7), .inl (.mv (.s 1))⟩,
    ⟨none, (some 8), .inl (.len (.s 7))⟩,
    ⟨none, (some 9), .inl (.bin .eql (.s 8) (.c (.int .i64 0)))⟩])
  (.cond (.s 9) (.seq (.region [⟨none, (some 4), .inl (.mv (.c (.bool true)))⟩])
   (.ret))
  (.skip)))
  (.seq (.seq (.region [⟨none, (some 10), .inl (.ld true 164 (.s 2))⟩,
    ⟨none, (some 11), .inl (.mv (.s 1))⟩,
    ⟨none, (some 12), .inr (.fn 77 [(.s 10), (.s 11)])⟩,
    ⟨none, (some 13), .inl (.not (.s 12))⟩])
  (.cond (.s 13) (.seq (.region [⟨none, (some 4), .inl (.mv (.c (.bool false)))⟩])
   (.ret))
  (.skip)))
  (.seq (.seq (.region [⟨none, (some 14), .inl (.fa (.s 2) 163)⟩,
    ⟨none, (some 15), .inl (.ld false 1 (.s 14))⟩])
  (.cond (.s 15) (.seq (.region [⟨none, (some 4), .inl (.mv (.c (.bool true)))⟩])
   (.ret))
  (.skip)))
  (.seq (.region [⟨none, (some 17), .inl (.fa (.s 2) 0)⟩,
    ⟨none, (some 18), .inl (.ld false 1 (.s 17))⟩,
    ⟨none, (some 19), .inl (.mv (.s 1))⟩,
    ⟨none, (some 20), .inr (.fn 47 [(.s 18), (.s 19)])⟩,
    ⟨none, (some 21), .inr (.fn 78 [(.s 20)])⟩,
    ⟨none, (some 16), .inl (.mv (.s 21))⟩,
    ⟨none, (some 22), .inl (.ex (.s 16) 0)⟩,
    ⟨none, (some 23), .inl (.ex (.s 16) 1)⟩,
    ⟨none, (some 5), .inl (.mv (.s 22))⟩,
    ⟨none, (some 6), .inl (.mv (.s 23))⟩])
  (.seq (.region [⟨none, (some 24), .inl (.mv (.s 6))⟩,
    ⟨none, (some 4), .inl (.mv (.s 24))⟩])
  (.ret))))))
def k64l0 : Cd :=
  .seq (.seq (.region [⟨none, (some 7), .inl (.mv (.s 3))⟩,
    ⟨none, (some 8), .inl (.bin .geq (.s 7) (.c (.int .i64 0)))⟩])
  (.cond (.s 8) (.skip)
  (.exit 0)))
  (.seq (.block 1 (.seq (.draw [⟨⟨none, (some 11), .inl (.mv (.s 0))⟩, (some []), [], 0, false⟩,
    ⟨⟨none, (some 12), .inl (.mv (.s 3))⟩, (some []), [], 0, false⟩,
    ⟨⟨none, (some 13), .inl (.ias 1 (.s 11) (.s 12))⟩, (some []), [], 3, false⟩,
    ⟨⟨none, (some 14), .inl (.ld false 1 (.s 13))⟩, (some []), [], 7, false⟩,
    ⟨⟨none, (some 15), .inl (.mv (.s 0))⟩, (some []), [], 0, false⟩,
    ⟨⟨none, (some 16), .inl (.mv (.s 3))⟩, (some []), [], 0, false⟩,
    ⟨⟨none, (some 17), .inl (.slc 1 (.s 15) none (some (.s 16)) none)⟩, (some []), [], 48, false⟩,
    ⟨⟨none, (some 18), .inr (.fn 65 [(.s 17)])⟩, (some []), [], 112, false⟩,
    ⟨⟨none, (some 19), .inl (.bin .lss (.s 14) (.s 18))⟩, (some []), [], 255, false⟩])
  (.cond (.s 19) (.seq (.region [⟨none, (some 20), .inl (.mv (.s 0))⟩,
     ⟨none, (some 21), .inl (.mv (.s 3))⟩,
     ⟨none, (some 22), .inl (.ias 1 (.s 20) (.s 21))⟩,
     ⟨none, (some 23), .inl (.ld false 1 (.s 22))⟩,
     ⟨none, (some 24), .inl (.bin .add (.s 23) (.c (.int .i64 1)))⟩,
     ⟨none, (some 25), .inl (.ias 1 (.s 20) (.s 21))⟩,
     ⟨none, none, .inl (.st 1 (.s 25) (.s 24))⟩])
   (.seq (.region [⟨none, (some 26), .inl (.mv (.s 0))⟩,
     ⟨none, (some 27), .inl (.mv (.s 3))⟩,
     ⟨none, (some 28), .inl (.bin .add (.s 27) (.c (.int .i64 1)))⟩,
     ⟨none, (some 29), .inl (.slc 1 (.s 26) none (some (.s 28)) none)⟩,
     ⟨none, (some 2), .inl (.mv (.s 29))⟩])
   (.ret)))
  (.skip))))
  (.region [⟨none, (some 9), .inl (.mv (.s 3))⟩,
    ⟨none, (some 10), .inl (.bin .sub (.s 9) (.c (.int .i64 1)))⟩,
    ⟨none, (some 3), .inl (.mv (.s 10))⟩]))
/-- gyttja/ash.raised -/
def k64 : Cd :=
  .seq (.region [⟨none, (some 2), .inl (.mv (.c (.slice none 0 0)))⟩])
  (.seq (.seq (.region [⟨none, (some 4), .inl (.mv (.s 0))⟩,
    ⟨none, (some 5), .inl (.len (.s 4))⟩,
    ⟨none, (some 6), .inl (.bin .sub (.s 5) (.c (.int .i64 1)))⟩,
    ⟨none, (some 3), .inl (.mv (.s 6))⟩])
  (.block 0 (.loop k64l0)))
  (.seq (.region [⟨none, (some 2), .inl (.mv (.c (.slice none 0 0)))⟩])
  (.ret)))
def k65l0 : Cd :=
  .seq (.region [⟨none, (some 9), .inl (.bin .lss (.s 8) (.s 7))⟩])
  (.seq (.cond (.s 9) (.skip)
  (.exit 0))
  (.seq (.block 1 (.seq (.region [⟨none, (some 10), .inl (.ias 1 (.s 6) (.s 8))⟩,
    ⟨none, (some 11), .inl (.ld false 1 (.s 10))⟩,
    ⟨none, (some 5), .inl (.mv (.s 11))⟩])
  (.region [⟨none, (some 12), .inl (.mv (.s 3))⟩,
    ⟨none, (some 13), .inl (.mv (.s 5))⟩,
    ⟨none, (some 14), .inl (.bin .add (.s 13) (.c (.int .i64 1)))⟩,
    ⟨none, (some 15), .inl (.mm true (.s 12) (.s 14))⟩,
    ⟨none, (some 3), .inl (.mv (.s 15))⟩])))
  (.region [⟨none, (some 16), .inl (.bin .add (.s 8) (.c (.int .i64 1)))⟩,
    ⟨none, (some 8), .inl (.mv (.s 16))⟩])))
/-- gyttja/ash.fallsIn -/
def k65 : Cd :=
  .seq (.region [⟨none, (some 2), .inl (.mv (.c (.int .i64 0)))⟩])
  (.seq (.region [⟨none, (some 3), .inl (.mv (.c (.int .i64 0)))⟩])
  (.seq (.seq (.region [⟨none, (some 6), .inl (.mv (.s 0))⟩,
    ⟨none, (some 7), .inl (.len (.s 6))⟩,
    ⟨none, (some 8), .inl (.mv (.c (.int .i64 0)))⟩])
  (.block 0 (.loop k65l0)))
  (.seq (.region [⟨none, (some 17), .inl (.mv (.s 3))⟩,
    ⟨none, (some 2), .inl (.mv (.s 17))⟩])
  (.ret))))
def k66l0 : Cd :=
  .seq (.region [⟨none, (some 22), .inl (.bin .lss (.s 21) (.s 20))⟩])
  (.seq (.cond (.s 22) (.skip)
  (.exit 2))
  (.seq (.block 3 (.seq (.region [⟨none, (some 23), .inl (.mv (.s 21))⟩,
    ⟨none, (some 10), .inl (.mv (.s 23))⟩])
  (.seq (.region [⟨none, (some 24), .inl (.mv (.s 7))⟩,
    ⟨none, (some 25), .inl (.mv (.s 10))⟩,
    ⟨none, (some 26), .inr (.fn 67 [(.s 24), (.s 25)])⟩])
  (.cond (.s 26) (.seq (.region [⟨none, (some 27), .inl (.mv (.s 10))⟩,
     ⟨none, (some 28), .inl (.mv (.s 8))⟩,
     ⟨none, (some 29), .inl (.iaa 9 1 (.s 5) (.s 27))⟩,
     ⟨none, none, .inl (.st 1 (.s 29) (.s 28))⟩])
   (.region [⟨none, (some 30), .inl (.mv (.s 9))⟩,
     ⟨none, (some 31), .inl (.mv (.s 10))⟩,
     ⟨none, (some 32), .inl (.fa (.s 2) 1)⟩,
     ⟨none, (some 33), .inl (.iaa 9 1 (.s 32) (.s 31))⟩,
     ⟨none, (some 34), .inl (.ld false 1 (.s 33))⟩,
     ⟨none, (some 35), .inl (.bin .or (.s 30) (.s 34))⟩,
     ⟨none, (some 9), .inl (.mv (.s 35))⟩]))
  (.skip)))))
  (.region [⟨none, (some 36), .inl (.bin .add (.s 21) (.c (.int .i64 1)))⟩,
    ⟨none, (some 21), .inl (.mv (.s 36))⟩])))
def k66l1 : Cd :=
  .seq (.seq (.region [⟨none, (some 15), .inl (.mv (.s 7))⟩,
    ⟨none, (some 16), .inl (.bin .neq (.s 15) (.c (.int .u64 0)))⟩])
  (.cond (.s 16) (.skip)
  (.exit 0)))
  (.seq (.block 1 (.seq (.region [⟨none, (some 9), .inl (.mv (.c (.int .u64 0)))⟩])
  (.seq (.seq (.region [⟨none, (some 19), .inl (.fa (.s 2) 0)⟩,
    ⟨none, (some 20), .inl (.ld false 1 (.s 19))⟩,
    ⟨none, (some 21), .inl (.mv (.c (.int .i64 0)))⟩])
  (.block 2 (.loop k66l0)))
  (.seq (.region [⟨none, (some 37), .inl (.mv (.s 6))⟩,
    ⟨none, (some 38), .inl (.mv (.s 7))⟩,
    ⟨none, (some 39), .inl (.bin .or (.s 37) (.s 38))⟩,
    ⟨none, (some 6), .inl (.mv (.s 39))⟩])
  (.region [⟨none, (some 40), .inl (.mv (.s 9))⟩,
    ⟨none, (some 41), .inl (.mv (.s 6))⟩,
    ⟨none, (some 42), .inl (.bin .andNot (.s 40) (.s 41))⟩,
    ⟨none, (some 7), .inl (.mv (.s 42))⟩])))))
  (.region [⟨none, (some 17), .inl (.mv (.s 8))⟩,
    ⟨none, (some 18), .inl (.bin .add (.s 17) (.c (.int .i64 1)))⟩,
    ⟨none, (some 8), .inl (.mv (.s 18))⟩]))
/-- (gyttja/ash.pile).stepsTo -/
def k66 : Cd :=
  .seq (.region [⟨none, (some 2), .inl (.box 92 10 (.s 0))⟩,
    ⟨none, (some 4), .inl (.alloc 110 [(.int .i64 0), (.int .i64 0), (.int .i64 0), (.int .i64 0), (.int .i64 0), (.int .i64 0), (.int .i64 0), (.int .i64 0), (.int .i64 0)])⟩])
  (.seq (.region [⟨none, (some 5), .inl (.alloc 110 [(.int .i64 0), (.int .i64 0), (.int .i64 0), (.int .i64 0), (.int .i64 0), (.int .i64 0), (.int .i64 0), (.int .i64 0), (.int .i64 0)])⟩])
  (.seq (.region [⟨none, (some 6), .inl (.mv (.c (.int .u64 0)))⟩])
  (.seq (.region [⟨none, (some 11), .inl (.mv (.s 1))⟩,
    ⟨none, (some 12), .inl (.fa (.s 2) 1)⟩,
    ⟨none, (some 13), .inl (.iaa 9 1 (.s 12) (.s 11))⟩,
    ⟨none, (some 14), .inl (.ld false 1 (.s 13))⟩,
    ⟨none, (some 7), .inl (.mv (.s 14))⟩])
  (.seq (.seq (.region [⟨none, (some 8), .inl (.mv (.c (.int .i64 1)))⟩])
  (.block 0 (.loop k66l1)))
  (.seq (.region [⟨none, (some 43), .inl (.ld true 9 (.s 5))⟩,
    ⟨none, none, .inl (.st 9 (.s 4) (.s 43))⟩])
  (.ret))))))
/-- (gyttja/ash.set).has -/
def k67 : Cd :=
  .seq (.region [⟨none, (some 4), .inl (.mv (.c (.bool false)))⟩])
  (.seq (.region [⟨none, (some 5), .inl (.mv (.s 0))⟩,
    ⟨none, (some 6), .inl (.mv (.s 1))⟩,
    ⟨none, (some 7), .inl (.bin .shl (.c (.int .u64 1)) (.s 6))⟩,
    ⟨none, (some 8), .inl (.bin .and (.s 5) (.s 7))⟩,
    ⟨none, (some 9), .inl (.bin .neq (.s 8) (.c (.int .u64 0)))⟩,
    ⟨none, (some 4), .inl (.mv (.s 9))⟩])
  (.ret))
def k73l0 : Cd :=
  .seq (.seq (.region [⟨none, (some 34), .inl (.mv (.s 8))⟩,
    ⟨none, (some 35), .inl (.mv (.s 7))⟩,
    ⟨none, (some 36), .inl (.len (.s 35))⟩,
    ⟨none, (some 37), .inl (.bin .lss (.s 34) (.s 36))⟩])
  (.cond (.s 37) (.skip)
  (.exit 0)))
  (.block 1 (.draw [⟨⟨none, (some 38), .inl (.mv (.s 8))⟩, (some []), [], 0, false⟩,
    ⟨⟨none, (some 39), .inl (.mv (.s 7))⟩, (some []), [], 0, false⟩,
    ⟨⟨none, (some 40), .inl (.mv (.s 8))⟩, (some []), [], 0, false⟩,
    ⟨⟨none, (some 41), .inl (.slc 1 (.s 39) (some (.s 40)) none none)⟩, (some []), [], 6, false⟩,
    ⟨⟨none, (some 42), .inl (.mv (.s 7))⟩, (some []), [], 0, false⟩,
    ⟨⟨none, (some 43), .inl (.mv (.s 8))⟩, (some []), [], 0, false⟩,
    ⟨⟨none, (some 44), .inl (.slc 1 (.s 42) none (some (.s 43)) none)⟩, (some []), [], 48, false⟩,
    ⟨⟨none, (some 45), .inl (.cpy 1 (.s 41) (.s 44))⟩, (some [.at 7]), [], 126, false⟩,
    ⟨⟨none, (some 46), .inl (.bin .add (.s 38) (.s 45))⟩, (some []), [], 255, false⟩,
    ⟨⟨none, (some 8), .inl (.mv (.s 46))⟩, (some []), [], 511, false⟩]))
/-- slices.Repeat[[]int,int] -/
def k73 : Cd :=
  .seq (.region [⟨none, (some 4), .inl (.mv (.c (.slice none 0 0)))⟩])
  (.seq (.seq (.region [⟨none, (some 9), .inl (.mv (.s 1))⟩,
    ⟨none, (some 10), .inl (.bin .lss (.s 9) (.c (.int .i64 0)))⟩])
  (.cond (.s 10) (.region [⟨none, (some 11), .inl (.mki 9 (.c (.string ⟨#[99, 97, 110, 110, 111, 116, 32, 98, 101, 32, 110, 101, 103, 97, 116, 105, 118, 101]⟩)))⟩,
     ⟨none, none, .inr (.pan (.s 11))⟩])
  (.skip)))
  (.seq (.region [⟨none, (some 13), .inl (.mv (.s 0))⟩,
    ⟨none, (some 14), .inl (.len (.s 13))⟩,
    ⟨none, (some 15), .inl (.cvi .u64 (.s 14))⟩,
    ⟨none, (some 16), .inl (.mv (.s 1))⟩,
    ⟨none, (some 17), .inl (.cvi .u64 (.s 16))⟩,
    ⟨none, (some 18), .inr (.fn 91 [(.s 15), (.s 17)])⟩,
    ⟨none, (some 12), .inl (.mv (.s 18))⟩,
    ⟨none, (some 19), .inl (.ex (.s 12) 0)⟩,
    ⟨none, (some 20), .inl (.ex (.s 12) 1)⟩,
    ⟨none, (some 5), .inl (.mv (.s 19))⟩,
    ⟨none, (some 6), .inl (.mv (.s 20))⟩])
  (.seq (.seq (.region [⟨none, (some 21), .inl (.mv (.s 5))⟩,
    ⟨none, (some 22), .inl (.bin .gtr (.s 21) (.c (.int .u64 0)))⟩,
    ⟨none, (some 23), .inl (.mv (.s 22))⟩,
    ⟨(some (23, false)), (some 24), .inl (.mv (.s 6))⟩,
    ⟨(some (23, false)), (some 25), .inl (.bin .gtr (.s 24) (.c (.int .u64 9223372036854775807)))⟩,
    ⟨none, (some 26), .inl (.pick (.s 23) (.c (.bool true)) (.s 25))⟩])
  (.cond (.s 26) (.region [⟨none, (some 27), .inl (.mki 9 (.c (.string ⟨#[116, 104, 101, 32, 114, 101, 115, 117, 108, 116, 32, 111, 102, 32, 40, 108, 101, 110, 40, 120, 41, 32, 42, 32, 99, 111, 117, 110, 116, 41, 32, 111, 118, 101, 114, 102, 108, 111, 119, 115]⟩)))⟩,
     ⟨none, none, .inr (.pan (.s 27))⟩])
  (.skip)))
  (.seq (.region [⟨none, (some 28), .inl (.mv (.s 6))⟩,
    ⟨none, (some 29), .inl (.cvi .i64 (.s 28))⟩,
    ⟨none, (some 30), .inl (.mks 3 1 8 [(.int .i64 0)] (.s 29) (.s 29))⟩,
    ⟨none, (some 7), .inl (.mv (.s 30))⟩])
  (.seq (.region [⟨none, (some 31), .inl (.mv (.s 7))⟩,
    ⟨none, (some 32), .inl (.mv (.s 0))⟩,
    ⟨none, (some 33), .inl (.cpy 1 (.s 31) (.s 32))⟩,
    ⟨none, (some 8), .inl (.mv (.s 33))⟩])
  (.seq (.block 0 (.loop k73l0))
  (.seq (.region [⟨none, (some 47), .inl (.mv (.s 7))⟩,
    ⟨none, (some 4), .inl (.mv (.s 47))⟩])
  (.ret))))))))
def k74l0 : Cd :=
  .seq (.seq (.region [⟨none, (some 13), .inl (.mv (.s 7))⟩,
    ⟨none, (some 14), .inl (.mv (.s 8))⟩,
    ⟨none, (some 15), .inl (.bin .lss (.s 13) (.s 14))⟩])
  (.cond (.s 15) (.skip)
  (.exit 0)))
  (.block 1 (.seq (.region [⟨none, (some 16), .inl (.mv (.s 7))⟩,
    ⟨none, (some 17), .inl (.mv (.s 8))⟩,
    ⟨none, (some 18), .inl (.bin .add (.s 16) (.s 17))⟩,
    ⟨none, (some 19), .inl (.cvi .u64 (.s 18))⟩,
    ⟨none, (some 20), .inl (.bin .shr (.s 19) (.c (.int .u64 1)))⟩,
    ⟨none, (some 21), .inl (.cvi .i64 (.s 20))⟩,
    ⟨none, (some 9), .inl (.mv (.s 21))⟩])
  (.seq (.region [⟨none, (some 22), .inl (.mv (.s 0))⟩,
    ⟨none, (some 23), .inl (.mv (.s 9))⟩,
    ⟨none, (some 24), .inl (.ias 1 (.s 22) (.s 23))⟩,
    ⟨none, (some 25), .inl (.ld false 1 (.s 24))⟩,
    ⟨none, (some 26), .inl (.mv (.s 1))⟩,
    ⟨none, (some 27), .inr (.fn 85 [(.s 25), (.s 26)])⟩])
  (.cond (.s 27) (.region [⟨none, (some 28), .inl (.mv (.s 9))⟩,
     ⟨none, (some 29), .inl (.bin .add (.s 28) (.c (.int .i64 1)))⟩,
     ⟨none, (some 7), .inl (.mv (.s 29))⟩])
  (.region [⟨none, (some 30), .inl (.mv (.s 9))⟩,
     ⟨none, (some 8), .inl (.mv (.s 30))⟩])))))
/-- slices.BinarySearch[[]int,int] -/
def k74 : Cd :=
  .seq (.region [⟨none, (some 4), .inl (.mv (.c (.int .i64 0)))⟩,
    ⟨none, (some 5), .inl (.mv (.c (.bool false)))⟩])
  (.seq (.region [⟨none, (some 10), .inl (.mv (.s 0))⟩,
    ⟨none, (some 11), .inl (.len (.s 10))⟩,
    ⟨none, (some 6), .inl (.mv (.s 11))⟩])
  (.seq (.region [⟨none, (some 12), .inl (.mv (.s 6))⟩,
    ⟨none, (some 7), .inl (.mv (.c (.int .i64 0)))⟩,
    ⟨none, (some 8), .inl (.mv (.s 12))⟩])
  (.seq (.block 0 (.loop k74l0))
  (.seq (.region [⟨none, (some 31), .inl (.mv (.s 7))⟩,
    ⟨none, (some 32), .inl (.mv (.s 7))⟩,
    ⟨none, (some 33), .inl (.mv (.s 6))⟩,
    ⟨none, (some 34), .inl (.bin .lss (.s 32) (.s 33))⟩,
    ⟨none, (some 35), .inl (.mv (.s 34))⟩,
    ⟨(some (35, true)), (some 36), .inl (.mv (.s 0))⟩,
    ⟨(some (35, true)), (some 37), .inl (.mv (.s 7))⟩,
    ⟨(some (35, true)), (some 38), .inl (.ias 1 (.s 36) (.s 37))⟩,
    ⟨(some (35, true)), (some 39), .inl (.ld false 1 (.s 38))⟩,
    ⟨(some (35, true)), (some 40), .inl (.mv (.s 1))⟩,
    ⟨(some (35, true)), (some 41), .inl (.bin .eql (.s 39) (.s 40))⟩,
    ⟨(some (35, true)), (some 42), .inl (.mv (.s 41))⟩,
    ⟨(some (42, false)), (some 43), .inl (.mv (.s 0))⟩,
    ⟨(some (42, false)), (some 44), .inl (.mv (.s 7))⟩,
    ⟨(some (42, false)), (some 45), .inl (.ias 1 (.s 43) (.s 44))⟩,
    ⟨(some (42, false)), (some 46), .inl (.ld false 1 (.s 45))⟩,
    ⟨(some (42, false)), (some 47), .inr (.fn 92 [(.s 46)])⟩,
    ⟨(some (42, false)), (some 48), .inl (.mv (.s 47))⟩,
    ⟨(some (48, true)), (some 49), .inl (.mv (.s 1))⟩,
    ⟨(some (48, true)), (some 50), .inr (.fn 92 [(.s 49)])⟩,
    ⟨(some (42, false)), (some 51), .inl (.pick (.s 48) (.s 50) (.c (.bool false)))⟩,
    ⟨(some (35, true)), (some 52), .inl (.pick (.s 42) (.c (.bool true)) (.s 51))⟩,
    ⟨none, (some 53), .inl (.pick (.s 35) (.s 52) (.c (.bool false)))⟩,
    ⟨none, (some 4), .inl (.mv (.s 31))⟩,
    ⟨none, (some 5), .inl (.mv (.s 53))⟩])
  (.ret)))))
/-- slices.Contains[[]int,int] -/
def k75 : Cd :=
  .seq (.region [⟨none, (some 4), .inl (.mv (.c (.bool false)))⟩])
  (.seq (.region [⟨none, (some 5), .inl (.mv (.s 0))⟩,
    ⟨none, (some 6), .inl (.mv (.s 1))⟩,
    ⟨none, (some 7), .inr (.fn 93 [(.s 5), (.s 6)])⟩,
    ⟨none, (some 8), .inl (.bin .geq (.s 7) (.c (.int .i64 0)))⟩,
    ⟨none, (some 4), .inl (.mv (.s 8))⟩])
  (.ret))
/-- cmp.isNaN[int] -/
def k76 : Cd :=
  .seq (.region [⟨none, (some 2), .inl (.mv (.c (.bool false)))⟩])
  (.seq (.region [⟨none, (some 3), .inl (.mv (.s 0))⟩,
    ⟨none, (some 4), .inl (.mv (.s 0))⟩,
    ⟨none, (some 5), .inl (.bin .neq (.s 3) (.s 4))⟩,
    ⟨none, (some 2), .inl (.mv (.s 5))⟩])
  (.ret))
def k77l0 : Cd :=
  .seq (.region [⟨none, (some 17), .inl (.bin .lss (.s 16) (.s 15))⟩])
  (.seq (.cond (.s 17) (.skip)
  (.exit 0))
  (.seq (.block 1 (.seq (.region [⟨none, (some 18), .inl (.mv (.s 16))⟩,
    ⟨none, (some 19), .inl (.ias 1 (.s 14) (.s 16))⟩,
    ⟨none, (some 20), .inl (.ld false 1 (.s 19))⟩,
    ⟨none, (some 6), .inl (.mv (.s 18))⟩,
    ⟨none, (some 7), .inl (.mv (.s 20))⟩])
  (.seq (.region [⟨none, (some 21), .inl (.mv (.s 7))⟩,
    ⟨none, (some 22), .inl (.mv (.s 1))⟩,
    ⟨none, (some 23), .inl (.mv (.s 5))⟩,
    ⟨none, (some 24), .inl (.ias 1 (.s 22) (.s 23))⟩,
    ⟨none, (some 25), .inl (.ld false 1 (.s 24))⟩,
    ⟨none, (some 26), .inl (.bin .eql (.s 21) (.s 25))⟩,
    ⟨none, (some 8), .inl (.mv (.s 26))⟩])
  (.seq (.region [⟨none, (some 27), .inl (.mv (.s 8))⟩,
    ⟨none, (some 28), .inl (.mv (.s 27))⟩,
    ⟨(some (28, true)), (some 29), .inl (.mv (.s 5))⟩,
    ⟨(some (28, true)), (some 30), .inl (.mv (.s 6))⟩,
    ⟨(some (28, true)), (some 31), .inl (.fa (.s 2) 1)⟩,
    ⟨(some (28, true)), (some 32), .inl (.iaa 9 9 (.s 31) (.s 29))⟩,
    ⟨(some (28, true)), (some 33), .inl (.iaa 9 1 (.s 32) (.s 30))⟩,
    ⟨(some (28, true)), (some 34), .inl (.ld false 1 (.s 33))⟩,
    ⟨none, (some 35), .inl (.pick (.s 28) (.s 34) (.c (.bool false)))⟩,
    ⟨none, (some 36), .inl (.mv (.s 35))⟩,
    ⟨(some (36, false)), (some 37), .inl (.mv (.s 8))⟩,
    ⟨(some (36, false)), (some 38), .inl (.not (.s 37))⟩,
    ⟨(some (36, false)), (some 39), .inl (.mv (.s 38))⟩,
    ⟨(some (39, true)), (some 40), .inl (.mv (.s 5))⟩,
    ⟨(some (39, true)), (some 41), .inl (.mv (.s 6))⟩,
    ⟨(some (39, true)), (some 42), .inl (.fa (.s 2) 82)⟩,
    ⟨(some (39, true)), (some 43), .inl (.iaa 9 9 (.s 42) (.s 40))⟩,
    ⟨(some (39, true)), (some 44), .inl (.iaa 9 1 (.s 43) (.s 41))⟩,
    ⟨(some (39, true)), (some 45), .inl (.ld false 1 (.s 44))⟩,
    ⟨(some (36, false)), (some 46), .inl (.pick (.s 39) (.s 45) (.c (.bool false)))⟩,
    ⟨none, (some 47), .inl (.pick (.s 36) (.c (.bool true)) (.s 46))⟩])
  (.cond (.s 47) (.seq (.region [⟨none, (some 4), .inl (.mv (.c (.bool false)))⟩])
   (.ret))
  (.skip))))))
  (.region [⟨none, (some 48), .inl (.bin .add (.s 16) (.c (.int .i64 1)))⟩,
    ⟨none, (some 16), .inl (.mv (.s 48))⟩])))
/-- (gyttja/ash.dealer).fits -/
def k77 : Cd :=
  .seq (.region [⟨none, (some 2), .inl (.box 82 164 (.s 0))⟩,
    ⟨none, (some 4), .inl (.mv (.c (.bool false)))⟩])
  (.seq (.region [⟨none, (some 9), .inl (.mv (.s 1))⟩,
    ⟨none, (some 10), .inl (.len (.s 9))⟩,
    ⟨none, (some 11), .inl (.bin .sub (.s 10) (.c (.int .i64 1)))⟩,
    ⟨none, (some 5), .inl (.mv (.s 11))⟩])
  (.seq (.seq (.region [⟨none, (some 12), .inl (.mv (.s 1))⟩,
    ⟨none, (some 13), .inl (.mv (.s 5))⟩,
    ⟨none, (some 14), .inl (.slc 1 (.s 12) none (some (.s 13)) none)⟩,
    ⟨none, (some 15), .inl (.len (.s 14))⟩,
    ⟨none, (some 16), .inl (.mv (.c (.int .i64 0)))⟩])
  (.block 0 (.loop k77l0)))
  (.seq (.region [⟨none, (some 4), .inl (.mv (.c (.bool true)))⟩])
  (.ret))))
def k78l0 : Cd :=
  .seq (.region [⟨none, (some 10), .inl (.bin .lss (.s 9) (.s 8))⟩])
  (.seq (.cond (.s 10) (.skip)
  (.exit 0))
  (.seq (.block 1 (.seq (.region [⟨none, (some 11), .inl (.ld true 10 (.s 1))⟩,
    ⟨none, (some 12), .inl (.mv (.s 5))⟩,
    ⟨none, (some 13), .inr (.fn 94 [(.s 11), (.s 12)])⟩,
    ⟨none, (some 6), .inl (.mv (.s 13))⟩])
  (.seq (.seq (.region [⟨none, (some 14), .inl (.mv (.s 6))⟩,
    ⟨none, (some 15), .inl (.bin .eql (.s 14) (.c (.int .i64 (-1))))⟩])
  (.cond (.s 15) (.seq (.region [⟨none, (some 2), .inl (.mv (.c (.slice none 0 0)))⟩,
     ⟨none, (some 3), .inl (.mv (.c (.bool false)))⟩])
   (.ret))
  (.skip)))
  (.seq (.region [⟨none, (some 16), .inl (.mv (.s 4))⟩,
    ⟨none, (some 17), .inl (.mv (.s 6))⟩,
    ⟨none, (some 18), .inl (.bs 3 1 1 [(.int .i64 0)] [(0, (.s 17))])⟩,
    ⟨none, (some 19), .inl (.app 3 1 8 (.s 16) (.s 18))⟩,
    ⟨none, (some 4), .inl (.mv (.s 19))⟩])
  (.region [⟨none, (some 20), .inl (.mv (.s 5))⟩,
    ⟨none, (some 21), .inl (.mv (.s 6))⟩,
    ⟨none, (some 22), .inl (.bin .shl (.c (.int .u64 1)) (.s 21))⟩,
    ⟨none, (some 23), .inl (.bin .or (.s 20) (.s 22))⟩,
    ⟨none, (some 5), .inl (.mv (.s 23))⟩])))))
  (.region [⟨none, (some 24), .inl (.bin .add (.s 9) (.c (.int .i64 1)))⟩,
    ⟨none, (some 9), .inl (.mv (.s 24))⟩])))
/-- (gyttja/ash.pile).order -/
def k78 : Cd :=
  .seq (.region [⟨none, (some 1), .inl (.box 92 10 (.s 0))⟩,
    ⟨none, (some 2), .inl (.mv (.c (.slice none 0 0)))⟩,
    ⟨none, (some 3), .inl (.mv (.c (.bool false)))⟩])
  (.seq (.region [⟨none, (some 4), .inl (.mv (.c (.slice none 0 0)))⟩])
  (.seq (.region [⟨none, (some 5), .inl (.mv (.c (.int .u64 0)))⟩])
  (.seq (.seq (.region [⟨none, (some 7), .inl (.fa (.s 1) 0)⟩,
    ⟨none, (some 8), .inl (.ld false 1 (.s 7))⟩,
    ⟨none, (some 9), .inl (.mv (.c (.int .i64 0)))⟩])
  (.block 0 (.loop k78l0)))
  (.seq (.region [⟨none, (some 25), .inl (.mv (.s 4))⟩,
    ⟨none, (some 2), .inl (.mv (.s 25))⟩,
    ⟨none, (some 3), .inl (.mv (.c (.bool true)))⟩])
  (.ret)))))
/-- cmp.Less[int] -/
def k85 : Cd :=
  .seq (.region [⟨none, (some 4), .inl (.mv (.c (.bool false)))⟩])
  (.seq (.region [⟨none, (some 5), .inl (.mv (.s 0))⟩,
    ⟨none, (some 6), .inr (.fn 76 [(.s 5)])⟩,
    ⟨none, (some 7), .inl (.mv (.s 6))⟩,
    ⟨(some (7, true)), (some 8), .inl (.mv (.s 1))⟩,
    ⟨(some (7, true)), (some 9), .inr (.fn 76 [(.s 8)])⟩,
    ⟨(some (7, true)), (some 10), .inl (.not (.s 9))⟩,
    ⟨none, (some 11), .inl (.pick (.s 7) (.s 10) (.c (.bool false)))⟩,
    ⟨none, (some 12), .inl (.mv (.s 11))⟩,
    ⟨(some (12, false)), (some 13), .inl (.mv (.s 0))⟩,
    ⟨(some (12, false)), (some 14), .inl (.mv (.s 1))⟩,
    ⟨(some (12, false)), (some 15), .inl (.bin .lss (.s 13) (.s 14))⟩,
    ⟨none, (some 16), .inl (.pick (.s 12) (.c (.bool true)) (.s 15))⟩,
    ⟨none, (some 4), .inl (.mv (.s 16))⟩])
  (.ret))
/-- math/bits.Mul -/
def k91 : Cd :=
  .seq (.region [⟨none, (some 4), .inl (.mv (.c (.int .u64 0)))⟩,
    ⟨none, (some 5), .inl (.mv (.c (.int .u64 0)))⟩])
  (.seq (.cond (.c (.bool false)) (.seq (.region [⟨none, (some 11), .inl (.mv (.s 0))⟩,
     ⟨none, (some 12), .inl (.cvi .u32 (.s 11))⟩,
     ⟨none, (some 13), .inl (.mv (.s 1))⟩,
     ⟨none, (some 14), .inl (.cvi .u32 (.s 13))⟩,
     ⟨none, (some 15), .inr (.fn 100 [(.s 12), (.s 14)])⟩,
     ⟨none, (some 10), .inl (.mv (.s 15))⟩,
     ⟨none, (some 16), .inl (.ex (.s 10) 0)⟩,
     ⟨none, (some 17), .inl (.ex (.s 10) 1)⟩,
     ⟨none, (some 6), .inl (.mv (.s 16))⟩,
     ⟨none, (some 7), .inl (.mv (.s 17))⟩])
   (.seq (.region [⟨none, (some 18), .inl (.mv (.s 6))⟩,
     ⟨none, (some 19), .inl (.cvi .u64 (.s 18))⟩,
     ⟨none, (some 20), .inl (.mv (.s 7))⟩,
     ⟨none, (some 21), .inl (.cvi .u64 (.s 20))⟩,
     ⟨none, (some 4), .inl (.mv (.s 19))⟩,
     ⟨none, (some 5), .inl (.mv (.s 21))⟩])
   (.ret)))
  (.skip))
  (.seq (.region [⟨none, (some 23), .inl (.mv (.s 0))⟩,
    ⟨none, (some 24), .inl (.mv (.s 1))⟩,
    ⟨none, (some 25), .inr (.fn 101 [(.s 23), (.s 24)])⟩,
    ⟨none, (some 22), .inl (.mv (.s 25))⟩,
    ⟨none, (some 26), .inl (.ex (.s 22) 0)⟩,
    ⟨none, (some 27), .inl (.ex (.s 22) 1)⟩,
    ⟨none, (some 8), .inl (.mv (.s 26))⟩,
    ⟨none, (some 9), .inl (.mv (.s 27))⟩])
  (.seq (.region [⟨none, (some 28), .inl (.mv (.s 8))⟩,
    ⟨none, (some 29), .inl (.mv (.s 9))⟩,
    ⟨none, (some 4), .inl (.mv (.s 28))⟩,
    ⟨none, (some 5), .inl (.mv (.s 29))⟩])
  (.ret))))
/-- slices.isNaN[int] -/
def k92 : Cd :=
  .seq (.region [⟨none, (some 2), .inl (.mv (.c (.bool false)))⟩])
  (.seq (.region [⟨none, (some 3), .inl (.mv (.s 0))⟩,
    ⟨none, (some 4), .inl (.mv (.s 0))⟩,
    ⟨none, (some 5), .inl (.bin .neq (.s 3) (.s 4))⟩,
    ⟨none, (some 2), .inl (.mv (.s 5))⟩])
  (.ret))
def k93l0 : Cd :=
  .seq (.region [⟨none, (some 9), .inl (.bin .lss (.s 8) (.s 7))⟩])
  (.seq (.cond (.s 9) (.skip)
  (.exit 0))
  (.seq (.block 1 (.seq (.region [⟨none, (some 10), .inl (.mv (.s 8))⟩,
    ⟨none, (some 5), .inl (.mv (.s 10))⟩])
  (.seq (.region [⟨none, (some 11), .inl (.mv (.s 1))⟩,
    ⟨none, (some 12), .inl (.mv (.s 0))⟩,
    ⟨none, (some 13), .inl (.mv (.s 5))⟩,
    ⟨none, (some 14), .inl (.ias 1 (.s 12) (.s 13))⟩,
    ⟨none, (some 15), .inl (.ld false 1 (.s 14))⟩,
    ⟨none, (some 16), .inl (.bin .eql (.s 11) (.s 15))⟩])
  (.cond (.s 16) (.seq (.region [⟨none, (some 17), .inl (.mv (.s 5))⟩,
     ⟨none, (some 4), .inl (.mv (.s 17))⟩])
   (.ret))
  (.skip)))))
  (.region [⟨none, (some 18), .inl (.bin .add (.s 8) (.c (.int .i64 1)))⟩,
    ⟨none, (some 8), .inl (.mv (.s 18))⟩])))
/-- slices.Index[[]int,int] -/
def k93 : Cd :=
  .seq (.region [⟨none, (some 4), .inl (.mv (.c (.int .i64 0)))⟩])
  (.seq (.seq (.region [⟨none, (some 6), .inl (.mv (.s 0))⟩,
    ⟨none, (some 7), .inl (.len (.s 6))⟩,
    ⟨none, (some 8), .inl (.mv (.c (.int .i64 0)))⟩])
  (.block 0 (.loop k93l0)))
  (.seq (.region [⟨none, (some 4), .inl (.mv (.c (.int .i64 (-1))))⟩])
  (.ret)))
def k94l0 : Cd :=
  .seq (.region [⟨none, (some 9), .inl (.bin .lss (.s 8) (.s 7))⟩])
  (.seq (.cond (.s 9) (.skip)
  (.exit 0))
  (.seq (.block 1 (.seq (.region [⟨none, (some 10), .inl (.mv (.s 8))⟩,
    ⟨none, (some 5), .inl (.mv (.s 10))⟩])
  (.seq (.region [⟨none, (some 11), .inl (.mv (.s 1))⟩,
    ⟨none, (some 12), .inl (.mv (.s 5))⟩,
    ⟨none, (some 13), .inr (.fn 67 [(.s 11), (.s 12)])⟩,
    ⟨none, (some 14), .inl (.not (.s 13))⟩,
    ⟨none, (some 15), .inl (.mv (.s 14))⟩,
    ⟨(some (15, true)), (some 16), .inl (.mv (.s 5))⟩,
    ⟨(some (15, true)), (some 17), .inl (.fa (.s 2) 1)⟩,
    ⟨(some (15, true)), (some 18), .inl (.iaa 9 1 (.s 17) (.s 16))⟩,
    ⟨(some (15, true)), (some 19), .inl (.ld false 1 (.s 18))⟩,
    ⟨(some (15, true)), (some 20), .inl (.mv (.s 1))⟩,
    ⟨(some (15, true)), (some 21), .inl (.bin .andNot (.s 19) (.s 20))⟩,
    ⟨(some (15, true)), (some 22), .inl (.bin .eql (.s 21) (.c (.int .u64 0)))⟩,
    ⟨none, (some 23), .inl (.pick (.s 15) (.s 22) (.c (.bool false)))⟩])
  (.cond (.s 23) (.seq (.region [⟨none, (some 24), .inl (.mv (.s 5))⟩,
     ⟨none, (some 4), .inl (.mv (.s 24))⟩])
   (.ret))
  (.skip)))))
  (.region [⟨none, (some 25), .inl (.bin .add (.s 8) (.c (.int .i64 1)))⟩,
    ⟨none, (some 8), .inl (.mv (.s 25))⟩])))
/-- (gyttja/ash.pile).next -/
def k94 : Cd :=
  .seq (.region [⟨none, (some 2), .inl (.box 92 10 (.s 0))⟩,
    ⟨none, (some 4), .inl (.mv (.c (.int .i64 0)))⟩])
  (.seq (.seq (.region [⟨none, (some 6), .inl (.fa (.s 2) 0)⟩,
    ⟨none, (some 7), .inl (.ld false 1 (.s 6))⟩,
    ⟨none, (some 8), .inl (.mv (.c (.int .i64 0)))⟩])
  (.block 0 (.loop k94l0)))
  (.seq (.region [⟨none, (some 4), .inl (.mv (.c (.int .i64 (-1))))⟩])
  (.ret)))
/-- math/bits.Mul32 -/
def k100 : Cd :=
  .seq (.region [⟨none, (some 4), .inl (.mv (.c (.int .u32 0)))⟩,
    ⟨none, (some 5), .inl (.mv (.c (.int .u32 0)))⟩])
  (.seq (.region [⟨none, (some 7), .inl (.mv (.s 0))⟩,
    ⟨none, (some 8), .inl (.cvi .u64 (.s 7))⟩,
    ⟨none, (some 9), .inl (.mv (.s 1))⟩,
    ⟨none, (some 10), .inl (.cvi .u64 (.s 9))⟩,
    ⟨none, (some 11), .inl (.bin .mul (.s 8) (.s 10))⟩,
    ⟨none, (some 6), .inl (.mv (.s 11))⟩])
  (.seq (.region [⟨none, (some 12), .inl (.mv (.s 6))⟩,
    ⟨none, (some 13), .inl (.bin .shr (.s 12) (.c (.int .u64 32)))⟩,
    ⟨none, (some 14), .inl (.cvi .u32 (.s 13))⟩,
    ⟨none, (some 15), .inl (.mv (.s 6))⟩,
    ⟨none, (some 16), .inl (.cvi .u32 (.s 15))⟩,
    ⟨none, (some 4), .inl (.mv (.s 14))⟩,
    ⟨none, (some 5), .inl (.mv (.s 16))⟩])
  (.ret)))
/-- math/bits.Mul64 -/
def k101 : Cd :=
  .seq (.region [⟨none, (some 4), .inl (.mv (.c (.int .u64 0)))⟩,
    ⟨none, (some 5), .inl (.mv (.c (.int .u64 0)))⟩])
  (.seq (.region [⟨none, (some 14), .inl (.mv (.s 0))⟩,
    ⟨none, (some 15), .inl (.bin .and (.s 14) (.c (.int .u64 4294967295)))⟩,
    ⟨none, (some 6), .inl (.mv (.s 15))⟩])
  (.seq (.region [⟨none, (some 16), .inl (.mv (.s 0))⟩,
    ⟨none, (some 17), .inl (.bin .shr (.s 16) (.c (.int .u64 32)))⟩,
    ⟨none, (some 7), .inl (.mv (.s 17))⟩])
  (.seq (.region [⟨none, (some 18), .inl (.mv (.s 1))⟩,
    ⟨none, (some 19), .inl (.bin .and (.s 18) (.c (.int .u64 4294967295)))⟩,
    ⟨none, (some 8), .inl (.mv (.s 19))⟩])
  (.seq (.region [⟨none, (some 20), .inl (.mv (.s 1))⟩,
    ⟨none, (some 21), .inl (.bin .shr (.s 20) (.c (.int .u64 32)))⟩,
    ⟨none, (some 9), .inl (.mv (.s 21))⟩])
  (.seq (.region [⟨none, (some 22), .inl (.mv (.s 6))⟩,
    ⟨none, (some 23), .inl (.mv (.s 8))⟩,
    ⟨none, (some 24), .inl (.bin .mul (.s 22) (.s 23))⟩,
    ⟨none, (some 10), .inl (.mv (.s 24))⟩])
  (.seq (.region [⟨none, (some 25), .inl (.mv (.s 7))⟩,
    ⟨none, (some 26), .inl (.mv (.s 8))⟩,
    ⟨none, (some 27), .inl (.bin .mul (.s 25) (.s 26))⟩,
    ⟨none, (some 28), .inl (.mv (.s 10))⟩,
    ⟨none, (some 29), .inl (.bin .shr (.s 28) (.c (.int .u64 32)))⟩,
    ⟨none, (some 30), .inl (.bin .add (.s 27) (.s 29))⟩,
    ⟨none, (some 11), .inl (.mv (.s 30))⟩])
  (.seq (.region [⟨none, (some 31), .inl (.mv (.s 11))⟩,
    ⟨none, (some 32), .inl (.bin .and (.s 31) (.c (.int .u64 4294967295)))⟩,
    ⟨none, (some 12), .inl (.mv (.s 32))⟩])
  (.seq (.region [⟨none, (some 33), .inl (.mv (.s 11))⟩,
    ⟨none, (some 34), .inl (.bin .shr (.s 33) (.c (.int .u64 32)))⟩,
    ⟨none, (some 13), .inl (.mv (.s 34))⟩])
  (.seq (.region [⟨none, (some 35), .inl (.mv (.s 12))⟩,
    ⟨none, (some 36), .inl (.mv (.s 6))⟩,
    ⟨none, (some 37), .inl (.mv (.s 9))⟩,
    ⟨none, (some 38), .inl (.bin .mul (.s 36) (.s 37))⟩,
    ⟨none, (some 39), .inl (.bin .add (.s 35) (.s 38))⟩,
    ⟨none, (some 12), .inl (.mv (.s 39))⟩])
  (.seq (.region [⟨none, (some 40), .inl (.mv (.s 7))⟩,
    ⟨none, (some 41), .inl (.mv (.s 9))⟩,
    ⟨none, (some 42), .inl (.bin .mul (.s 40) (.s 41))⟩,
    ⟨none, (some 43), .inl (.mv (.s 13))⟩,
    ⟨none, (some 44), .inl (.bin .add (.s 42) (.s 43))⟩,
    ⟨none, (some 45), .inl (.mv (.s 12))⟩,
    ⟨none, (some 46), .inl (.bin .shr (.s 45) (.c (.int .u64 32)))⟩,
    ⟨none, (some 47), .inl (.bin .add (.s 44) (.s 46))⟩,
    ⟨none, (some 4), .inl (.mv (.s 47))⟩])
  (.seq (.region [⟨none, (some 48), .inl (.mv (.s 0))⟩,
    ⟨none, (some 49), .inl (.mv (.s 1))⟩,
    ⟨none, (some 50), .inl (.bin .mul (.s 48) (.s 49))⟩,
    ⟨none, (some 5), .inl (.mv (.s 50))⟩])
  (.ret))))))))))))
end Go.Proofs.YtnfhgnbniajhoaaDoor
