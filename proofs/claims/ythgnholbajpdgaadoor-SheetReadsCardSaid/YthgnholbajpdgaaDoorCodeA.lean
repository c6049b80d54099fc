/- The small code of the functions of this program, as its own reader reads them: part A. -/
import Derived.Test.YthgnholbajpdgaaDoorEmU
namespace Go.Proofs.YthgnholbajpdgaaDoor
open Go Go.Em
set_option maxRecDepth 100000
/-- gyttja/gyttjalaw01.SheetRows -/
def k3 : Cd :=
  .seq (.region [⟨none, (some 3), .inl (.box 23 3 (.s 0))⟩,
    ⟨none, (some 4), .inl (.box 26 4 (.s 1))⟩,
    ⟨none, (some 5), .inl (.box 27 3 (.s 2))⟩,
    ⟨none, (some 6), .inl (.mv (.c (.bool false)))⟩])
  (.seq (.region [⟨none, (some 14), .inr (.fn 15 [])⟩,
    ⟨none, (some 7), .inl (.mv (.s 14))⟩])
  (.seq (.region [⟨none, (some 15), .inl (.ld true 4 (.s 4))⟩,
    ⟨none, (some 16), .inr (.fn 16 [(.s 15)])⟩,
    ⟨none, (some 8), .inl (.mv (.s 16))⟩])
  (.seq (.region [⟨none, (some 17), .inl (.mv (.s 8))⟩,
    ⟨none, (some 18), .inl (.ld true 4 (.s 4))⟩,
    ⟨none, (some 19), .inr (.fn 18 [(.s 18)])⟩,
    ⟨none, (some 20), .inr (.fn 17 [(.s 17), (.s 19)])⟩,
    ⟨none, (some 9), .inl (.mv (.s 20))⟩])
  (.seq (.region [⟨none, (some 22), .inl (.iaa 3 1 (.s 5) (.c (.int .i64 2)))⟩,
    ⟨none, (some 23), .inl (.ld false 1 (.s 22))⟩,
    ⟨none, (some 24), .inr (.fn 19 [(.s 23)])⟩,
    ⟨none, (some 21), .inl (.mv (.s 24))⟩,
    ⟨none, (some 25), .inl (.ex (.s 21) 0)⟩,
    ⟨none, (some 26), .inl (.ex (.s 21) 1)⟩,
    ⟨none, (some 10), .inl (.mv (.s 25))⟩,
    ⟨none, (some 11), .inl (.mv (.s 26))⟩])
  (.seq (.region [⟨none, (some 28), .inl (.iaa 3 1 (.s 5) (.c (.int .i64 2)))⟩,
    ⟨none, (some 29), .inl (.ld false 1 (.s 28))⟩,
    ⟨none, (some 30), .inr (.fn 20 [(.s 29)])⟩,
    ⟨none, (some 27), .inl (.mv (.s 30))⟩,
    ⟨none, (some 31), .inl (.ex (.s 27) 0)⟩,
    ⟨none, (some 32), .inl (.ex (.s 27) 1)⟩,
    ⟨none, (some 12), .inl (.mv (.s 31))⟩,
    ⟨none, (some 13), .inl (.mv (.s 32))⟩])
  (.seq (.draw [⟨⟨none, (some 33), .inl (.mv (.s 7))⟩, (some []), [], 0, false⟩,
    ⟨⟨none, (some 34), .inl (.mv (.s 33))⟩, (some []), [], 1, false⟩,
    ⟨⟨(some (34, true)), (some 35), .inl (.mv (.s 9))⟩, (some []), [], 3, false⟩,
    ⟨⟨none, (some 36), .inl (.pick (.s 34) (.s 35) (.c (.bool false)))⟩, (some []), [], 7, false⟩,
    ⟨⟨none, (some 37), .inl (.mv (.s 36))⟩, (some []), [], 15, false⟩,
    ⟨⟨(some (37, true)), (some 38), .inl (.mv (.s 10))⟩, (some []), [], 31, false⟩,
    ⟨⟨(some (37, true)), (some 39), .inl (.mv (.s 12))⟩, (some []), [], 31, false⟩,
    ⟨⟨(some (37, true)), (some 40), .inl (.bin .eql (.s 38) (.s 39))⟩, (some []), [], 127, false⟩,
    ⟨⟨none, (some 41), .inl (.pick (.s 37) (.s 40) (.c (.bool false)))⟩, (some []), [], 255, false⟩,
    ⟨⟨none, (some 42), .inl (.mv (.s 41))⟩, (some []), [], 511, false⟩,
    ⟨⟨(some (42, true)), (some 43), .inl (.mv (.s 11))⟩, (some []), [], 1023, false⟩,
    ⟨⟨(some (42, true)), (some 44), .inl (.mv (.s 13))⟩, (some []), [], 1023, false⟩,
    ⟨⟨(some (42, true)), (some 45), .inl (.bin .eql (.s 43) (.s 44))⟩, (some []), [], 4095, false⟩,
    ⟨⟨none, (some 46), .inl (.pick (.s 42) (.s 45) (.c (.bool false)))⟩, (some []), [], 8191, false⟩,
    ⟨⟨none, (some 47), .inl (.mv (.s 46))⟩, (some []), [], 16383, false⟩,
    ⟨⟨(some (47, true)), (some 48), .inl (.ld true 3 (.s 3))⟩, (some []), [], 32767, false⟩,
    ⟨⟨(some (47, true)), (some 49), .inr (.fn 21 [(.s 48)])⟩, (some []), [], 65535, false⟩,
    ⟨⟨(some (47, true)), (some 50), .inl (.ld true 3 (.s 3))⟩, (some []), [], 32767, false⟩,
    ⟨⟨(some (47, true)), (some 51), .inr (.fn 22 [(.s 50)])⟩, (some []), [], 262143, false⟩,
    ⟨⟨(some (47, true)), (some 52), .inl (.bin .eql (.s 49) (.s 51))⟩, (some []), [], 524287, false⟩,
    ⟨⟨none, (some 53), .inl (.pick (.s 47) (.s 52) (.c (.bool false)))⟩, (some []), [], 1048575, false⟩,
    ⟨⟨none, (some 54), .inl (.mv (.s 53))⟩, (some []), [], 2097151, false⟩,
    ⟨⟨(some (54, true)), (some 55), .inl (.ld true 4 (.s 4))⟩, (some []), [], 4194303, false⟩,
    ⟨⟨(some (54, true)), (some 56), .inr (.fn 23 [(.s 55)])⟩, (some []), [], 8388607, false⟩,
    ⟨⟨(some (54, true)), (some 57), .inl (.ld true 4 (.s 4))⟩, (some []), [], 4194303, false⟩,
    ⟨⟨(some (54, true)), (some 58), .inr (.fn 24 [(.s 57)])⟩, (some []), [], 33554431, false⟩,
    ⟨⟨(some (54, true)), (some 59), .inl (.bin .eql (.s 56) (.s 58))⟩, (some []), [], 67108863, false⟩,
    ⟨⟨none, (some 60), .inl (.pick (.s 54) (.s 59) (.c (.bool false)))⟩, (some []), [], 134217727, false⟩,
    ⟨⟨none, (some 61), .inl (.mv (.s 60))⟩, (some []), [], 268435455, false⟩,
    ⟨⟨(some (61, true)), (some 62), .inl (.iaa 3 1 (.s 5) (.c (.int .i64 0)))⟩, (some []), [], 536870911, false⟩,
    ⟨⟨(some (61, true)), (some 63), .inl (.ld false 1 (.s 62))⟩, (some []), [], 1073741823, false⟩,
    ⟨⟨(some (61, true)), (some 64), .inl (.iaa 3 1 (.s 5) (.c (.int .i64 1)))⟩, (some []), [], 536870911, false⟩,
    ⟨⟨(some (61, true)), (some 65), .inl (.ld false 1 (.s 64))⟩, (some []), [], 2684354559, false⟩,
    ⟨⟨(some (61, true)), (some 66), .inr (.fn 25 [(.s 63), (.s 65)])⟩, (some []), [], 8589934591, false⟩,
    ⟨⟨(some (61, true)), (some 67), .inl (.iaa 3 1 (.s 5) (.c (.int .i64 0)))⟩, (some []), [], 536870911, false⟩,
    ⟨⟨(some (61, true)), (some 68), .inl (.ld false 1 (.s 67))⟩, (some []), [], 17716740095, false⟩,
    ⟨⟨(some (61, true)), (some 69), .inl (.iaa 3 1 (.s 5) (.c (.int .i64 1)))⟩, (some []), [], 536870911, false⟩,
    ⟨⟨(some (61, true)), (some 70), .inl (.ld false 1 (.s 69))⟩, (some []), [], 69256347647, false⟩,
    ⟨⟨(some (61, true)), (some 71), .inr (.fn 26 [(.s 68), (.s 70)])⟩, (some []), [], 274877906943, false⟩,
    ⟨⟨(some (61, true)), (some 72), .inl (.bin .eql (.s 66) (.s 71))⟩, (some []), [], 549755813887, false⟩,
    ⟨⟨none, (some 73), .inl (.pick (.s 61) (.s 72) (.c (.bool false)))⟩, (some []), [], 1099511627775, false⟩,
    ⟨⟨none, (some 6), .inl (.mv (.s 73))⟩, (some []), [], 2199023255551, false⟩])
  (.ret)))))))
/-- gyttja/gyttjalaw01.SheetPlaces -/
def k4 : Cd :=
  .seq (.region [⟨none, (some 6), .inl (.mv (.c (.bool false)))⟩])
  (.seq (.region [⟨none, (some 11), .inr (.fn 15 [])⟩,
    ⟨none, (some 7), .inl (.mv (.s 11))⟩])
  (.seq (.region [⟨none, (some 12), .inl (.mv (.s 1))⟩,
    ⟨none, (some 13), .inl (.mv (.s 2))⟩,
    ⟨none, (some 14), .inr (.fn 25 [(.s 12), (.s 13)])⟩,
    ⟨none, (some 8), .inl (.mv (.s 14))⟩])
  (.seq (.region [⟨none, (some 16), .inl (.mv (.s 8))⟩,
    ⟨none, (some 17), .inr (.fn 19 [(.s 16)])⟩,
    ⟨none, (some 15), .inl (.mv (.s 17))⟩,
    ⟨none, (some 18), .inl (.ex (.s 15) 0)⟩,
    ⟨none, (some 19), .inl (.ex (.s 15) 1)⟩,
    ⟨none, (some 9), .inl (.mv (.s 18))⟩,
    ⟨none, (some 10), .inl (.mv (.s 19))⟩])
  (.seq (.seq (.region [⟨none, (some 20), .inl (.mv (.s 8))⟩,
    ⟨none, (some 21), .inl (.bin .geq (.s 20) (.c (.int .i64 0)))⟩,
    ⟨none, (some 22), .inl (.mv (.s 21))⟩,
    ⟨(some (22, true)), (some 23), .inl (.mv (.s 9))⟩,
    ⟨(some (22, true)), (some 24), .inl (.mv (.s 1))⟩,
    ⟨(some (22, true)), (some 25), .inl (.bin .neq (.s 23) (.s 24))⟩,
    ⟨(some (22, true)), (some 26), .inl (.mv (.s 25))⟩,
    ⟨(some (26, false)), (some 27), .inl (.mv (.s 10))⟩,
    ⟨(some (26, false)), (some 28), .inl (.mv (.s 2))⟩,
    ⟨(some (26, false)), (some 29), .inl (.bin .neq (.s 27) (.s 28))⟩,
    ⟨(some (22, true)), (some 30), .inl (.pick (.s 26) (.c (.bool true)) (.s 29))⟩,
    ⟨none, (some 31), .inl (.pick (.s 22) (.s 30) (.c (.bool false)))⟩,
    ⟨none, (some 32), .inl (.mv (.s 31))⟩,
    ⟨(some (32, false)), (some 33), .inl (.mv (.s 8))⟩,
    ⟨(some (32, false)), (some 34), .inl (.bin .lss (.s 33) (.c (.int .i64 0)))⟩,
    ⟨(some (32, false)), (some 35), .inl (.mv (.s 34))⟩,
    ⟨(some (35, true)), (some 36), .inl (.mv (.s 8))⟩,
    ⟨(some (35, true)), (some 37), .inl (.bin .neq (.s 36) (.c (.int .i64 (-1))))⟩,
    ⟨(some (35, true)), (some 38), .inl (.mv (.s 37))⟩,
    ⟨(some (38, false)), (some 39), .inl (.mv (.s 9))⟩,
    ⟨(some (38, false)), (some 40), .inl (.bin .neq (.s 39) (.c (.int .i64 (-1))))⟩,
    ⟨(some (35, true)), (some 41), .inl (.pick (.s 38) (.c (.bool true)) (.s 40))⟩,
    ⟨(some (35, true)), (some 42), .inl (.mv (.s 41))⟩,
    ⟨(some (42, false)), (some 43), .inl (.mv (.s 10))⟩,
    ⟨(some (42, false)), (some 44), .inl (.bin .neq (.s 43) (.c (.int .i64 (-1))))⟩,
    ⟨(some (35, true)), (some 45), .inl (.pick (.s 42) (.c (.bool true)) (.s 44))⟩,
    ⟨(some (32, false)), (some 46), .inl (.pick (.s 35) (.s 45) (.c (.bool false)))⟩,
    ⟨none, (some 47), .inl (.pick (.s 32) (.c (.bool true)) (.s 46))⟩])
  (.cond (.s 47) (.seq (.region [⟨none, (some 6), .inl (.mv (.c (.bool false)))⟩])
   (.ret))
  (.skip)))
  (.seq (.region [⟨none, (some 49), .inl (.mv (.s 0))⟩,
    ⟨none, (some 50), .inr (.fn 19 [(.s 49)])⟩,
    ⟨none, (some 48), .inl (.mv (.s 50))⟩,
    ⟨none, (some 51), .inl (.ex (.s 48) 0)⟩,
    ⟨none, (some 52), .inl (.ex (.s 48) 1)⟩,
    ⟨none, (some 9), .inl (.mv (.s 51))⟩,
    ⟨none, (some 10), .inl (.mv (.s 52))⟩])
  (.seq (.seq (.region [⟨none, (some 53), .inl (.mv (.s 9))⟩,
    ⟨none, (some 54), .inl (.bin .lss (.s 53) (.c (.int .i64 0)))⟩])
  (.cond (.s 54) (.seq (.region [⟨none, (some 55), .inl (.mv (.s 7))⟩,
     ⟨none, (some 56), .inl (.mv (.s 55))⟩,
     ⟨(some (56, true)), (some 57), .inl (.mv (.s 0))⟩,
     ⟨(some (56, true)), (some 58), .inl (.bin .lss (.s 57) (.c (.int .i64 1)))⟩,
     ⟨(some (56, true)), (some 59), .inl (.mv (.s 58))⟩,
     ⟨(some (59, false)), (some 60), .inl (.mv (.s 0))⟩,
     ⟨(some (59, false)), (some 61), .inl (.bin .gtr (.s 60) (.c (.int .i64 2048)))⟩,
     ⟨(some (56, true)), (some 62), .inl (.pick (.s 59) (.c (.bool true)) (.s 61))⟩,
     ⟨none, (some 63), .inl (.pick (.s 56) (.s 62) (.c (.bool false)))⟩,
     ⟨none, (some 64), .inl (.mv (.s 63))⟩,
     ⟨(some (64, true)), (some 65), .inl (.mv (.s 10))⟩,
     ⟨(some (64, true)), (some 66), .inl (.bin .eql (.s 65) (.c (.int .i64 (-1))))⟩,
     ⟨none, (some 67), .inl (.pick (.s 64) (.s 66) (.c (.bool false)))⟩,
     ⟨none, (some 6), .inl (.mv (.s 67))⟩])
   (.ret))
  (.skip)))
  (.seq (.region [⟨none, (some 68), .inl (.mv (.s 7))⟩,
    ⟨none, (some 69), .inl (.mv (.s 68))⟩,
    ⟨(some (69, true)), (some 70), .inl (.mv (.s 9))⟩,
    ⟨(some (69, true)), (some 71), .inl (.mv (.s 10))⟩,
    ⟨(some (69, true)), (some 72), .inr (.fn 25 [(.s 70), (.s 71)])⟩,
    ⟨(some (69, true)), (some 73), .inl (.mv (.s 0))⟩,
    ⟨(some (69, true)), (some 74), .inl (.bin .eql (.s 72) (.s 73))⟩,
    ⟨none, (some 75), .inl (.pick (.s 69) (.s 74) (.c (.bool false)))⟩,
    ⟨none, (some 6), .inl (.mv (.s 75))⟩])
  (.ret))))))))
/-- gyttja/gyttjalaw01.SheetLong -/
def k6 : Cd :=
  .seq (.region [⟨none, (some 2), .inl (.mv (.c (.bool false)))⟩])
  (.seq (.region [⟨none, (some 11), .inr (.fn 15 [])⟩,
    ⟨none, (some 3), .inl (.mv (.s 11))⟩])
  (.seq (.region [⟨none, (some 13), .inl (.mv (.s 0))⟩,
    ⟨none, (some 14), .inr (.fn 27 [(.s 13)])⟩,
    ⟨none, (some 12), .inl (.mv (.s 14))⟩,
    ⟨none, (some 15), .inl (.ex (.s 12) 0)⟩,
    ⟨none, (some 16), .inl (.ex (.s 12) 1)⟩,
    ⟨none, (some 17), .inl (.ex (.s 12) 2)⟩,
    ⟨none, (some 4), .inl (.alloc 26 [(.int .i64 0), (.int .i64 0), (.int .i64 0), (.slice none 0 0)])⟩,
    ⟨none, none, .inl (.st 4 (.s 4) (.s 15))⟩,
    ⟨none, (some 5), .inl (.mv (.s 16))⟩,
    ⟨none, (some 6), .inl (.mv (.s 17))⟩])
  (.seq (.region [⟨none, (some 19), .inl (.mv (.s 0))⟩,
    ⟨none, (some 20), .inr (.fn 28 [(.s 19)])⟩,
    ⟨none, (some 18), .inl (.mv (.s 20))⟩,
    ⟨none, (some 21), .inl (.ex (.s 18) 0)⟩,
    ⟨none, (some 22), .inl (.ex (.s 18) 1)⟩,
    ⟨none, (some 23), .inl (.ex (.s 18) 2)⟩,
    ⟨none, (some 7), .inl (.alloc 26 [(.int .i64 0), (.int .i64 0), (.int .i64 0), (.slice none 0 0)])⟩,
    ⟨none, none, .inl (.st 4 (.s 7) (.s 21))⟩,
    ⟨none, (some 8), .inl (.mv (.s 22))⟩,
    ⟨none, (some 9), .inl (.mv (.s 23))⟩])
  (.seq (.region [⟨none, (some 24), .inl (.ld true 4 (.s 4))⟩,
    ⟨none, (some 25), .inl (.ld true 4 (.s 7))⟩,
    ⟨none, (some 26), .inr (.fn 29 [(.s 24), (.s 25)])⟩,
    ⟨none, (some 10), .inl (.mv (.s 26))⟩])
  (.seq (.region [⟨none, (some 27), .inl (.mv (.s 3))⟩,
    ⟨none, (some 28), .inl (.mv (.s 27))⟩,
    ⟨(some (28, true)), (some 29), .inl (.mv (.s 10))⟩,
    ⟨none, (some 30), .inl (.pick (.s 28) (.s 29) (.c (.bool false)))⟩,
    ⟨none, (some 31), .inl (.mv (.s 30))⟩,
    ⟨(some (31, true)), (some 32), .inl (.mv (.s 5))⟩,
    ⟨(some (31, true)), (some 33), .inl (.mv (.s 8))⟩,
    ⟨(some (31, true)), (some 34), .inl (.bin .eql (.s 32) (.s 33))⟩,
    ⟨none, (some 35), .inl (.pick (.s 31) (.s 34) (.c (.bool false)))⟩,
    ⟨none, (some 36), .inl (.mv (.s 35))⟩,
    ⟨(some (36, true)), (some 37), .inl (.mv (.s 6))⟩,
    ⟨(some (36, true)), (some 38), .inl (.mv (.s 9))⟩,
    ⟨(some (36, true)), (some 39), .inl (.bin .eql (.s 37) (.s 38))⟩,
    ⟨none, (some 40), .inl (.pick (.s 36) (.s 39) (.c (.bool false)))⟩,
    ⟨none, (some 2), .inl (.mv (.s 40))⟩])
  (.ret))))))
/-- gyttja/gyttjalaw01.SheetSpans -/
def k8 : Cd :=
  .seq (.region [⟨none, (some 4), .inl (.box 26 4 (.s 1))⟩,
    ⟨none, (some 5), .inl (.box 47 2 (.s 2))⟩,
    ⟨none, (some 6), .inl (.mv (.c (.bool false)))⟩])
  (.seq (.region [⟨none, (some 23), .inr (.fn 15 [])⟩,
    ⟨none, (some 7), .inl (.mv (.s 23))⟩])
  (.seq (.region [⟨none, (some 25), .inl (.mv (.s 0))⟩,
    ⟨none, (some 26), .inr (.fn 32 [(.s 25)])⟩,
    ⟨none, (some 24), .inl (.mv (.s 26))⟩,
    ⟨none, (some 27), .inl (.ex (.s 24) 0)⟩,
    ⟨none, (some 28), .inl (.ex (.s 24) 1)⟩,
    ⟨none, (some 29), .inl (.ex (.s 24) 2)⟩,
    ⟨none, (some 8), .inl (.mv (.s 27))⟩,
    ⟨none, (some 9), .inl (.mv (.s 28))⟩,
    ⟨none, (some 10), .inl (.mv (.s 29))⟩])
  (.seq (.region [⟨none, (some 31), .inl (.mv (.s 0))⟩,
    ⟨none, (some 32), .inr (.fn 33 [(.s 31)])⟩,
    ⟨none, (some 30), .inl (.mv (.s 32))⟩,
    ⟨none, (some 33), .inl (.ex (.s 30) 0)⟩,
    ⟨none, (some 34), .inl (.ex (.s 30) 1)⟩,
    ⟨none, (some 35), .inl (.ex (.s 30) 2)⟩,
    ⟨none, (some 11), .inl (.mv (.s 33))⟩,
    ⟨none, (some 12), .inl (.mv (.s 34))⟩,
    ⟨none, (some 13), .inl (.mv (.s 35))⟩])
  (.seq (.region [⟨none, (some 37), .inl (.mv (.s 0))⟩,
    ⟨none, (some 38), .inr (.fn 34 [(.s 37)])⟩,
    ⟨none, (some 36), .inl (.mv (.s 38))⟩,
    ⟨none, (some 39), .inl (.ex (.s 36) 0)⟩,
    ⟨none, (some 40), .inl (.ex (.s 36) 1)⟩,
    ⟨none, (some 14), .inl (.mv (.s 39))⟩,
    ⟨none, (some 15), .inl (.mv (.s 40))⟩])
  (.seq (.region [⟨none, (some 42), .inl (.mv (.s 0))⟩,
    ⟨none, (some 43), .inr (.fn 35 [(.s 42)])⟩,
    ⟨none, (some 41), .inl (.mv (.s 43))⟩,
    ⟨none, (some 44), .inl (.ex (.s 41) 0)⟩,
    ⟨none, (some 45), .inl (.ex (.s 41) 1)⟩,
    ⟨none, (some 16), .inl (.mv (.s 44))⟩,
    ⟨none, (some 17), .inl (.mv (.s 45))⟩])
  (.seq (.draw [⟨⟨none, (some 46), .inl (.ld true 4 (.s 4))⟩, (some []), [], 0, false⟩,
    ⟨⟨none, (some 47), .inr (.fn 37 [(.s 46)])⟩, (some []), [], 1, false⟩,
    ⟨⟨none, (some 48), .inl (.ld true 4 (.s 4))⟩, (some []), [], 0, false⟩,
    ⟨⟨none, (some 49), .inr (.fn 38 [(.s 48)])⟩, (some []), [], 7, false⟩,
    ⟨⟨none, (some 50), .inr (.fn 36 [(.s 47), (.s 49)])⟩, (some []), [], 15, false⟩,
    ⟨⟨none, (some 18), .inl (.mv (.s 50))⟩, (some []), [], 31, false⟩])
  (.seq (.region [⟨none, (some 52), .inl (.ld true 4 (.s 4))⟩,
    ⟨none, (some 53), .inl (.iaa 2 1 (.s 5) (.c (.int .i64 0)))⟩,
    ⟨none, (some 54), .inl (.ld false 1 (.s 53))⟩,
    ⟨none, (some 55), .inl (.iaa 2 1 (.s 5) (.c (.int .i64 1)))⟩,
    ⟨none, (some 56), .inl (.ld false 1 (.s 55))⟩,
    ⟨none, (some 57), .inr (.fn 39 [(.s 52), (.s 54), (.s 56)])⟩,
    ⟨none, (some 51), .inl (.mv (.s 57))⟩,
    ⟨none, (some 58), .inl (.ex (.s 51) 0)⟩,
    ⟨none, (some 59), .inl (.ex (.s 51) 1)⟩,
    ⟨none, (some 19), .inl (.alloc 56 [(.int .i64 0), (.int .i64 0), (.int .i64 0), (.int .i64 0)])⟩,
    ⟨none, none, .inl (.st 4 (.s 19) (.s 58))⟩,
    ⟨none, (some 20), .inl (.mv (.s 59))⟩])
  (.seq (.region [⟨none, (some 61), .inl (.ld true 4 (.s 4))⟩,
    ⟨none, (some 62), .inl (.iaa 2 1 (.s 5) (.c (.int .i64 0)))⟩,
    ⟨none, (some 63), .inl (.ld false 1 (.s 62))⟩,
    ⟨none, (some 64), .inl (.iaa 2 1 (.s 5) (.c (.int .i64 1)))⟩,
    ⟨none, (some 65), .inl (.ld false 1 (.s 64))⟩,
    ⟨none, (some 66), .inr (.fn 40 [(.s 61), (.s 63), (.s 65)])⟩,
    ⟨none, (some 60), .inl (.mv (.s 66))⟩,
    ⟨none, (some 67), .inl (.ex (.s 60) 0)⟩,
    ⟨none, (some 68), .inl (.ex (.s 60) 1)⟩,
    ⟨none, (some 21), .inl (.alloc 56 [(.int .i64 0), (.int .i64 0), (.int .i64 0), (.int .i64 0)])⟩,
    ⟨none, none, .inl (.st 4 (.s 21) (.s 67))⟩,
    ⟨none, (some 22), .inl (.mv (.s 68))⟩])
  (.seq (.region [⟨none, (some 69), .inl (.mv (.s 7))⟩,
    ⟨none, (some 70), .inl (.mv (.s 69))⟩,
    ⟨(some (70, true)), (some 71), .inl (.mv (.s 18))⟩,
    ⟨none, (some 72), .inl (.pick (.s 70) (.s 71) (.c (.bool false)))⟩,
    ⟨none, (some 73), .inl (.mv (.s 72))⟩,
    ⟨(some (73, true)), (some 74), .inl (.mv (.s 8))⟩,
    ⟨(some (73, true)), (some 75), .inl (.mv (.s 11))⟩,
    ⟨(some (73, true)), (some 76), .inl (.bin .eql (.s 74) (.s 75))⟩,
    ⟨none, (some 77), .inl (.pick (.s 73) (.s 76) (.c (.bool false)))⟩,
    ⟨none, (some 78), .inl (.mv (.s 77))⟩,
    ⟨(some (78, true)), (some 79), .inl (.mv (.s 9))⟩,
    ⟨(some (78, true)), (some 80), .inl (.mv (.s 12))⟩,
    ⟨(some (78, true)), (some 81), .inl (.bin .eql (.s 79) (.s 80))⟩,
    ⟨none, (some 82), .inl (.pick (.s 78) (.s 81) (.c (.bool false)))⟩,
    ⟨none, (some 83), .inl (.mv (.s 82))⟩,
    ⟨(some (83, true)), (some 84), .inl (.mv (.s 10))⟩,
    ⟨(some (83, true)), (some 85), .inl (.mv (.s 13))⟩,
    ⟨(some (83, true)), (some 86), .inl (.bin .eql (.s 84) (.s 85))⟩,
    ⟨none, (some 87), .inl (.pick (.s 83) (.s 86) (.c (.bool false)))⟩,
    ⟨none, (some 88), .inl (.mv (.s 87))⟩,
    ⟨(some (88, true)), (some 89), .inl (.mv (.s 14))⟩,
    ⟨(some (88, true)), (some 90), .inl (.mv (.s 16))⟩,
    ⟨(some (88, true)), (some 91), .inl (.bin .eql (.s 89) (.s 90))⟩,
    ⟨none, (some 92), .inl (.pick (.s 88) (.s 91) (.c (.bool false)))⟩,
    ⟨none, (some 93), .inl (.mv (.s 92))⟩,
    ⟨(some (93, true)), (some 94), .inl (.mv (.s 15))⟩,
    ⟨(some (93, true)), (some 95), .inl (.mv (.s 17))⟩,
    ⟨(some (93, true)), (some 96), .inl (.bin .eql (.s 94) (.s 95))⟩,
    ⟨none, (some 97), .inl (.pick (.s 93) (.s 96) (.c (.bool false)))⟩,
    ⟨none, (some 98), .inl (.mv (.s 97))⟩,
    ⟨(some (98, true)), (some 99), .inl (.ld true 4 (.s 19))⟩,
    ⟨(some (98, true)), (some 100), .inl (.ld true 4 (.s 21))⟩,
    ⟨(some (98, true)), (some 101), .inl (.eq false (.cells [.int, .int, .int, .int]) (.s 99) (.s 100))⟩,
    ⟨none, (some 102), .inl (.pick (.s 98) (.s 101) (.c (.bool false)))⟩,
    ⟨none, (some 103), .inl (.mv (.s 102))⟩,
    ⟨(some (103, true)), (some 104), .inl (.mv (.s 20))⟩,
    ⟨(some (103, true)), (some 105), .inl (.mv (.s 22))⟩,
    ⟨(some (103, true)), (some 106), .inl (.bin .eql (.s 104) (.s 105))⟩,
    ⟨none, (some 107), .inl (.pick (.s 103) (.s 106) (.c (.bool false)))⟩,
    ⟨none, (some 6), .inl (.mv (.s 107))⟩])
  (.ret))))))))))
/-- gyttja/gyttjalaw01.SheetCuts -/
def k9 : Cd :=
  .seq (.region [⟨none, (some 3), .inl (.box 26 4 (.s 0))⟩,
    ⟨none, (some 4), .inl (.box 47 2 (.s 1))⟩,
    ⟨none, (some 6), .inl (.mv (.c (.bool false)))⟩])
  (.seq (.region [⟨none, (some 23), .inr (.fn 15 [])⟩,
    ⟨none, (some 7), .inl (.mv (.s 23))⟩])
  (.seq (.region [⟨none, (some 25), .inl (.ld true 4 (.s 3))⟩,
    ⟨none, (some 26), .inl (.iaa 2 1 (.s 4) (.c (.int .i64 0)))⟩,
    ⟨none, (some 27), .inl (.ld false 1 (.s 26))⟩,
    ⟨none, (some 28), .inl (.iaa 2 1 (.s 4) (.c (.int .i64 1)))⟩,
    ⟨none, (some 29), .inl (.ld false 1 (.s 28))⟩,
    ⟨none, (some 30), .inr (.fn 41 [(.s 25), (.s 27), (.s 29)])⟩,
    ⟨none, (some 24), .inl (.mv (.s 30))⟩,
    ⟨none, (some 31), .inl (.ex (.s 24) 0)⟩,
    ⟨none, (some 32), .inl (.ex (.s 24) 1)⟩,
    ⟨none, (some 8), .inl (.mv (.s 31))⟩,
    ⟨none, (some 9), .inl (.mv (.s 32))⟩])
  (.seq (.region [⟨none, (some 34), .inl (.ld true 4 (.s 3))⟩,
    ⟨none, (some 35), .inl (.iaa 2 1 (.s 4) (.c (.int .i64 0)))⟩,
    ⟨none, (some 36), .inl (.ld false 1 (.s 35))⟩,
    ⟨none, (some 37), .inl (.iaa 2 1 (.s 4) (.c (.int .i64 1)))⟩,
    ⟨none, (some 38), .inl (.ld false 1 (.s 37))⟩,
    ⟨none, (some 39), .inr (.fn 42 [(.s 34), (.s 36), (.s 38)])⟩,
    ⟨none, (some 33), .inl (.mv (.s 39))⟩,
    ⟨none, (some 40), .inl (.ex (.s 33) 0)⟩,
    ⟨none, (some 41), .inl (.ex (.s 33) 1)⟩,
    ⟨none, (some 10), .inl (.mv (.s 40))⟩,
    ⟨none, (some 11), .inl (.mv (.s 41))⟩])
  (.seq (.region [⟨none, (some 43), .inl (.ld true 4 (.s 3))⟩,
    ⟨none, (some 44), .inl (.iaa 2 1 (.s 4) (.c (.int .i64 0)))⟩,
    ⟨none, (some 45), .inl (.ld false 1 (.s 44))⟩,
    ⟨none, (some 46), .inl (.iaa 2 1 (.s 4) (.c (.int .i64 1)))⟩,
    ⟨none, (some 47), .inl (.ld false 1 (.s 46))⟩,
    ⟨none, (some 48), .inl (.mv (.s 2))⟩,
    ⟨none, (some 49), .inr (.fn 43 [(.s 43), (.s 45), (.s 47), (.s 48)])⟩,
    ⟨none, (some 42), .inl (.mv (.s 49))⟩,
    ⟨none, (some 50), .inl (.ex (.s 42) 0)⟩,
    ⟨none, (some 51), .inl (.ex (.s 42) 1)⟩,
    ⟨none, (some 12), .inl (.alloc 26 [(.int .i64 0), (.int .i64 0), (.int .i64 0), (.slice none 0 0)])⟩,
    ⟨none, none, .inl (.st 4 (.s 12) (.s 50))⟩,
    ⟨none, (some 13), .inl (.mv (.s 51))⟩])
  (.seq (.region [⟨none, (some 53), .inl (.ld true 4 (.s 3))⟩,
    ⟨none, (some 54), .inl (.iaa 2 1 (.s 4) (.c (.int .i64 0)))⟩,
    ⟨none, (some 55), .inl (.ld false 1 (.s 54))⟩,
    ⟨none, (some 56), .inl (.iaa 2 1 (.s 4) (.c (.int .i64 1)))⟩,
    ⟨none, (some 57), .inl (.ld false 1 (.s 56))⟩,
    ⟨none, (some 58), .inl (.mv (.s 2))⟩,
    ⟨none, (some 59), .inr (.fn 44 [(.s 53), (.s 55), (.s 57), (.s 58)])⟩,
    ⟨none, (some 52), .inl (.mv (.s 59))⟩,
    ⟨none, (some 60), .inl (.ex (.s 52) 0)⟩,
    ⟨none, (some 61), .inl (.ex (.s 52) 1)⟩,
    ⟨none, (some 14), .inl (.alloc 26 [(.int .i64 0), (.int .i64 0), (.int .i64 0), (.slice none 0 0)])⟩,
    ⟨none, none, .inl (.st 4 (.s 14) (.s 60))⟩,
    ⟨none, (some 15), .inl (.mv (.s 61))⟩])
  (.seq (.region [⟨none, (some 63), .inl (.ld true 4 (.s 3))⟩,
    ⟨none, (some 64), .inl (.iaa 2 1 (.s 4) (.c (.int .i64 0)))⟩,
    ⟨none, (some 65), .inl (.ld false 1 (.s 64))⟩,
    ⟨none, (some 66), .inl (.iaa 2 1 (.s 4) (.c (.int .i64 1)))⟩,
    ⟨none, (some 67), .inl (.ld false 1 (.s 66))⟩,
    ⟨none, (some 68), .inr (.fn 45 [(.s 63), (.s 65), (.s 67)])⟩,
    ⟨none, (some 62), .inl (.mv (.s 68))⟩,
    ⟨none, (some 69), .inl (.ex (.s 62) 0)⟩,
    ⟨none, (some 70), .inl (.ex (.s 62) 1)⟩,
    ⟨none, (some 16), .inl (.alloc 26 [(.int .i64 0), (.int .i64 0), (.int .i64 0), (.slice none 0 0)])⟩,
    ⟨none, none, .inl (.st 4 (.s 16) (.s 69))⟩,
    ⟨none, (some 17), .inl (.mv (.s 70))⟩])
  (.seq (.region [⟨none, (some 72), .inl (.ld true 4 (.s 3))⟩,
    ⟨none, (some 73), .inl (.iaa 2 1 (.s 4) (.c (.int .i64 0)))⟩,
    ⟨none, (some 74), .inl (.ld false 1 (.s 73))⟩,
    ⟨none, (some 75), .inl (.iaa 2 1 (.s 4) (.c (.int .i64 1)))⟩,
    ⟨none, (some 76), .inl (.ld false 1 (.s 75))⟩,
    ⟨none, (some 77), .inr (.fn 46 [(.s 72), (.s 74), (.s 76)])⟩,
    ⟨none, (some 71), .inl (.mv (.s 77))⟩,
    ⟨none, (some 78), .inl (.ex (.s 71) 0)⟩,
    ⟨none, (some 79), .inl (.ex (.s 71) 1)⟩,
    ⟨none, (some 18), .inl (.alloc 26 [(.int .i64 0), (.int .i64 0), (.int .i64 0), (.slice none 0 0)])⟩,
    ⟨none, none, .inl (.st 4 (.s 18) (.s 78))⟩,
    ⟨none, (some 19), .inl (.mv (.s 79))⟩])
  (.seq (.region [⟨none, (some 80), .inl (.mv (.s 8))⟩,
    ⟨none, (some 81), .inl (.mv (.s 10))⟩,
    ⟨none, (some 82), .inr (.fn 47 [(.s 80), (.s 81)])⟩,
    ⟨none, (some 20), .inl (.mv (.s 82))⟩])
  (.seq (.region [⟨none, (some 83), .inl (.ld true 4 (.s 12))⟩,
    ⟨none, (some 84), .inl (.ld true 4 (.s 14))⟩,
    ⟨none, (some 85), .inr (.fn 29 [(.s 83), (.s 84)])⟩,
    ⟨none, (some 21), .inl (.mv (.s 85))⟩])
  (.seq (.region [⟨none, (some 86), .inl (.ld true 4 (.s 16))⟩,
    ⟨none, (some 87), .inl (.ld true 4 (.s 18))⟩,
    ⟨none, (some 88), .inr (.fn 29 [(.s 86), (.s 87)])⟩,
    ⟨none, (some 22), .inl (.mv (.s 88))⟩])
  (.seq (.region [⟨none, (some 89), .inl (.mv (.s 7))⟩,
    ⟨none, (some 90), .inl (.mv (.s 89))⟩,
    ⟨(some (90, true)), (some 91), .inl (.mv (.s 20))⟩,
    ⟨none, (some 92), .inl (.pick (.s 90) (.s 91) (.c (.bool false)))⟩,
    ⟨none, (some 93), .inl (.mv (.s 92))⟩,
    ⟨(some (93, true)), (some 94), .inl (.mv (.s 21))⟩,
    ⟨none, (some 95), .inl (.pick (.s 93) (.s 94) (.c (.bool false)))⟩,
    ⟨none, (some 96), .inl (.mv (.s 95))⟩,
    ⟨(some (96, true)), (some 97), .inl (.mv (.s 22))⟩,
    ⟨none, (some 98), .inl (.pick (.s 96) (.s 97) (.c (.bool false)))⟩,
    ⟨none, (some 99), .inl (.mv (.s 98))⟩,
    ⟨(some (99, true)), (some 100), .inl (.mv (.s 9))⟩,
    ⟨(some (99, true)), (some 101), .inl (.mv (.s 11))⟩,
    ⟨(some (99, true)), (some 102), .inl (.bin .eql (.s 100) (.s 101))⟩,
    ⟨none, (some 103), .inl (.pick (.s 99) (.s 102) (.c (.bool false)))⟩,
    ⟨none, (some 104), .inl (.mv (.s 103))⟩,
    ⟨(some (104, true)), (some 105), .inl (.mv (.s 13))⟩,
    ⟨(some (104, true)), (some 106), .inl (.mv (.s 15))⟩,
    ⟨(some (104, true)), (some 107), .inl (.bin .eql (.s 105) (.s 106))⟩,
    ⟨none, (some 108), .inl (.pick (.s 104) (.s 107) (.c (.bool false)))⟩,
    ⟨none, (some 109), .inl (.mv (.s 108))⟩,
    ⟨(some (109, true)), (some 110), .inl (.mv (.s 17))⟩,
    ⟨(some (109, true)), (some 111), .inl (.mv (.s 19))⟩,
    ⟨(some (109, true)), (some 112), .inl (.bin .eql (.s 110) (.s 111))⟩,
    ⟨none, (some 113), .inl (.pick (.s 109) (.s 112) (.c (.bool false)))⟩,
    ⟨none, (some 6), .inl (.mv (.s 113))⟩])
  (.ret))))))))))))
/-- gyttja/gyttjalaw01.SheetReads -/
def k10 : Cd :=
  .seq (.region [⟨none, (some 4), .inl (.mv (.c (.bool false)))⟩])
  (.seq (.region [⟨none, (some 16), .inr (.fn 15 [])⟩,
    ⟨none, (some 5), .inl (.mv (.s 16))⟩])
  (.seq (.region [⟨none, (some 18), .inl (.mv (.s 0))⟩,
    ⟨none, (some 19), .inl (.mv (.s 1))⟩,
    ⟨none, (some 20), .inr (.fn 48 [(.s 18), (.s 19)])⟩,
    ⟨none, (some 17), .inl (.mv (.s 20))⟩,
    ⟨none, (some 21), .inl (.ex (.s 17) 0)⟩,
    ⟨none, (some 22), .inl (.ex (.s 17) 1)⟩,
    ⟨none, (some 6), .inl (.mv (.s 21))⟩,
    ⟨none, (some 7), .inl (.mv (.s 22))⟩])
  (.seq (.region [⟨none, (some 24), .inl (.mv (.s 0))⟩,
    ⟨none, (some 25), .inl (.mv (.s 1))⟩,
    ⟨none, (some 26), .inr (.fn 49 [(.s 24), (.s 25)])⟩,
    ⟨none, (some 23), .inl (.mv (.s 26))⟩,
    ⟨none, (some 27), .inl (.ex (.s 23) 0)⟩,
    ⟨none, (some 28), .inl (.ex (.s 23) 1)⟩,
    ⟨none, (some 8), .inl (.mv (.s 27))⟩,
    ⟨none, (some 9), .inl (.mv (.s 28))⟩])
  (.seq (.region [⟨none, (some 30), .inl (.mv (.s 0))⟩,
    ⟨none, (some 31), .inr (.fn 50 [(.s 30)])⟩,
    ⟨none, (some 29), .inl (.mv (.s 31))⟩,
    ⟨none, (some 32), .inl (.ex (.s 29) 0)⟩,
    ⟨none, (some 33), .inl (.ex (.s 29) 1)⟩,
    ⟨none, (some 10), .inl (.mv (.s 32))⟩,
    ⟨none, (some 11), .inl (.mv (.s 33))⟩])
  (.seq (.region [⟨none, (some 35), .inl (.mv (.s 0))⟩,
    ⟨none, (some 36), .inr (.fn 51 [(.s 35)])⟩,
    ⟨none, (some 34), .inl (.mv (.s 36))⟩,
    ⟨none, (some 37), .inl (.ex (.s 34) 0)⟩,
    ⟨none, (some 38), .inl (.ex (.s 34) 1)⟩,
    ⟨none, (some 12), .inl (.mv (.s 37))⟩,
    ⟨none, (some 13), .inl (.mv (.s 38))⟩])
  (.seq (.region [⟨none, (some 39), .inl (.mv (.s 6))⟩,
    ⟨none, (some 40), .inl (.mv (.s 8))⟩,
    ⟨none, (some 41), .inr (.fn 17 [(.s 39), (.s 40)])⟩,
    ⟨none, (some 14), .inl (.mv (.s 41))⟩])
  (.seq (.region [⟨none, (some 42), .inl (.mv (.s 10))⟩,
    ⟨none, (some 43), .inl (.mv (.s 12))⟩,
    ⟨none, (some 44), .inr (.fn 17 [(.s 42), (.s 43)])⟩,
    ⟨none, (some 15), .inl (.mv (.s 44))⟩])
  (.seq (.region [⟨none, (some 45), .inl (.mv (.s 5))⟩,
    ⟨none, (some 46), .inl (.mv (.s 45))⟩,
    ⟨(some (46, true)), (some 47), .inl (.mv (.s 14))⟩,
    ⟨none, (some 48), .inl (.pick (.s 46) (.s 47) (.c (.bool false)))⟩,
    ⟨none, (some 49), .inl (.mv (.s 48))⟩,
    ⟨(some (49, true)), (some 50), .inl (.mv (.s 15))⟩,
    ⟨none, (some 51), .inl (.pick (.s 49) (.s 50) (.c (.bool false)))⟩,
    ⟨none, (some 52), .inl (.mv (.s 51))⟩,
    ⟨(some (52, true)), (some 53), .inl (.mv (.s 7))⟩,
    ⟨(some (52, true)), (some 54), .inl (.mv (.s 9))⟩,
    ⟨(some (52, true)), (some 55), .inl (.bin .eql (.s 53) (.s 54))⟩,
    ⟨none, (some 56), .inl (.pick (.s 52) (.s 55) (.c (.bool false)))⟩,
    ⟨none, (some 57), .inl (.mv (.s 56))⟩,
    ⟨(some (57, true)), (some 58), .inl (.mv (.s 11))⟩,
    ⟨(some (57, true)), (some 59), .inl (.mv (.s 13))⟩,
    ⟨(some (57, true)), (some 60), .inl (.bin .eql (.s 58) (.s 59))⟩,
    ⟨none, (some 61), .inl (.pick (.s 57) (.s 60) (.c (.bool false)))⟩,
    ⟨none, (some 4), .inl (.mv (.s 61))⟩])
  (.ret)))))))))
/-- gyttja/gyttjalaw01.SheetReadings -/
def k11 : Cd :=
  .seq (.region [⟨none, (some 5), .inl (.box 27 3 (.s 2))⟩,
    ⟨none, (some 6), .inl (.mv (.c (.bool false)))⟩])
  (.seq (.region [⟨none, (some 13), .inr (.fn 15 [])⟩,
    ⟨none, (some 7), .inl (.mv (.s 13))⟩])
  (.seq (.region [⟨none, (some 14), .inl (.mv (.s 0))⟩,
    ⟨none, (some 15), .inr (.fn 52 [(.s 14)])⟩,
    ⟨none, (some 0), .inl (.mv (.s 15))⟩])
  (.seq (.region [⟨none, (some 17), .inl (.mv (.s 0))⟩,
    ⟨none, (some 18), .inl (.mv (.s 1))⟩,
    ⟨none, (some 19), .inr (.fn 49 [(.s 17), (.s 18)])⟩,
    ⟨none, (some 16), .inl (.mv (.s 19))⟩,
    ⟨none, (some 20), .inl (.ex (.s 16) 0)⟩,
    ⟨none, (some 21), .inl (.ex (.s 16) 1)⟩,
    ⟨none, (some 8), .inl (.mv (.s 20))⟩,
    ⟨none, (some 9), .inl (.mv (.s 21))⟩])
  (.seq (.seq (.region [⟨none, (some 22), .inl (.mv (.s 9))⟩,
    ⟨none, (some 23), .inl (.bin .neq (.s 22) (.c (.int .i64 0)))⟩])
  (.cond (.s 23) (.seq (.region [⟨none, (some 24), .inl (.mv (.s 7))⟩,
     ⟨none, (some 25), .inl (.mv (.s 24))⟩,
     ⟨(some (25, true)), (some 26), .inl (.mv (.s 0))⟩,
     ⟨(some (25, true)), (some 27), .inr (.fn 53 [(.s 26), (.c (.slice none 0 0))])⟩,
     ⟨(some (25, true)), (some 28), .inl (.not (.s 27))⟩,
     ⟨none, (some 29), .inl (.pick (.s 25) (.s 28) (.c (.bool false)))⟩,
     ⟨none, (some 6), .inl (.mv (.s 29))⟩])
   (.ret))
  (.skip)))
  (.seq (.seq (.region [⟨none, (some 30), .inl (.mv (.s 0))⟩,
    ⟨none, (some 31), .inl (.mv (.s 8))⟩,
    ⟨none, (some 32), .inr (.fn 53 [(.s 30), (.s 31)])⟩,
    ⟨none, (some 33), .inl (.not (.s 32))⟩,
    ⟨none, (some 34), .inl (.mv (.s 33))⟩,
    ⟨(some (34, false)), (some 35), .inl (.mv (.s 7))⟩,
    ⟨(some (34, false)), (some 36), .inl (.not (.s 35))⟩,
    ⟨none, (some 37), .inl (.pick (.s 34) (.c (.bool true)) (.s 36))⟩])
  (.cond (.s 37) (.seq (.region [⟨none, (some 6), .inl (.mv (.c (.bool false)))⟩])
   (.ret))
  (.skip)))
  (.seq (.region [⟨none, (some 38), .inl (.bs 3 1 0 [(.int .i64 0)] [])⟩,
    ⟨none, (some 39), .inl (.mv (.s 8))⟩,
    ⟨none, (some 40), .inl (.app 3 1 8 (.s 38) (.s 39))⟩,
    ⟨none, (some 10), .inl (.mv (.s 40))⟩])
  (.seq (.region [⟨none, (some 11), .inl (.mv (.c (.int .i64 0)))⟩])
  (.seq (.seq (.region [⟨none, (some 41), .inl (.mv (.s 10))⟩,
    ⟨none, (some 42), .inl (.len (.s 41))⟩,
    ⟨none, (some 43), .inl (.bin .gtr (.s 42) (.c (.int .i64 0)))⟩])
  (.cond (.s 43) (.region [⟨none, (some 44), .inl (.iaa 3 1 (.s 5) (.c (.int .i64 0)))⟩,
     ⟨none, (some 45), .inl (.ld false 1 (.s 44))⟩,
     ⟨none, (some 46), .inl (.mv (.s 10))⟩,
     ⟨none, (some 47), .inl (.len (.s 46))⟩,
     ⟨none, (some 48), .inr (.fn 54 [(.s 45), (.s 47)])⟩,
     ⟨none, (some 11), .inl (.mv (.s 48))⟩])
  (.skip)))
  (.seq (.region [⟨none, (some 49), .inl (.iaa 3 1 (.s 5) (.c (.int .i64 1)))⟩,
    ⟨none, (some 50), .inl (.ld false 1 (.s 49))⟩,
    ⟨none, (some 51), .inr (.fn 54 [(.s 50), (.c (.int .i64 3))])⟩,
    ⟨none, (some 12), .inl (.mv (.s 51))⟩])
  (.seq (.seq (.region [⟨none, (some 52), .inl (.mv (.s 12))⟩,
    ⟨none, (some 53), .inl (.bin .eql (.s 52) (.c (.int .i64 0)))⟩,
    ⟨none, (some 54), .inl (.mv (.s 53))⟩,
    ⟨(some (54, true)), (some 55), .inl (.mv (.s 10))⟩,
    ⟨(some (54, true)), (some 56), .inl (.len (.s 55))⟩,
    ⟨(some (54, true)), (some 57), .inl (.bin .gtr (.s 56) (.c (.int .i64 0)))⟩,
    ⟨none, (some 58), .inl (.pick (.s 54) (.s 57) (.c (.bool false)))⟩])
  (.cond (.s 58) (.draw [⟨⟨none, (some 59), .inl (.mv (.s 10))⟩, (some []), [], 0, false⟩,
     ⟨⟨none, (some 60), .inl (.mv (.s 11))⟩, (some []), [], 0, false⟩,
     ⟨⟨none, (some 61), .inl (.mv (.s 10))⟩, (some []), [], 0, false⟩,
     ⟨⟨none, (some 62), .inl (.mv (.s 11))⟩, (some []), [], 0, false⟩,
     ⟨⟨none, (some 63), .inl (.ias 1 (.s 61) (.s 62))⟩, (some []), [], 12, false⟩,
     ⟨⟨none, (some 64), .inl (.ld false 1 (.s 63))⟩, (some []), [], 28, false⟩,
     ⟨⟨none, (some 65), .inl (.iaa 3 1 (.s 5) (.c (.int .i64 2)))⟩, (some []), [], 0, false⟩,
     ⟨⟨none, (some 66), .inl (.ld false 1 (.s 65))⟩, (some []), [], 64, false⟩,
     ⟨⟨none, (some 67), .inr (.fn 54 [(.s 66), (.c (.int .i64 5))])⟩, (some []), [], 192, false⟩,
     ⟨⟨none, (some 68), .inl (.bin .add (.s 64) (.s 67))⟩, (some []), [], 508, false⟩,
     ⟨⟨none, (some 69), .inl (.bin .sub (.s 68) (.c (.int .i64 2)))⟩, (some []), [], 1020, false⟩,
     ⟨⟨none, (some 70), .inl (.ias 1 (.s 59) (.s 60))⟩, (some []), [], 2047, false⟩,
     ⟨⟨none, none, .inl (.st 1 (.s 70) (.s 69))⟩, (some [.at 10]), [], 4095, false⟩])
  (.skip)))
  (.seq (.seq (.region [⟨none, (some 71), .inl (.mv (.s 12))⟩,
    ⟨none, (some 72), .inl (.bin .eql (.s 71) (.c (.int .i64 1)))⟩,
    ⟨none, (some 73), .inl (.mv (.s 72))⟩,
    ⟨(some (73, true)), (some 74), .inl (.mv (.s 10))⟩,
    ⟨(some (73, true)), (some 75), .inl (.len (.s 74))⟩,
    ⟨(some (73, true)), (some 76), .inl (.bin .gtr (.s 75) (.c (.int .i64 0)))⟩,
    ⟨none, (some 77), .inl (.pick (.s 73) (.s 76) (.c (.bool false)))⟩])
  (.cond (.s 77) (.draw [⟨⟨none, (some 78), .inl (.bs 3 1 0 [(.int .i64 0)] [])⟩, (some [.fr 78]), [], 0, false⟩,
     ⟨⟨none, (some 79), .inl (.mv (.s 10))⟩, (some []), [], 0, false⟩,
     ⟨⟨none, (some 80), .inl (.mv (.s 11))⟩, (some []), [], 0, false⟩,
     ⟨⟨none, (some 81), .inl (.slc 1 (.s 79) none (some (.s 80)) none)⟩, (some []), [.fr 78], 6, false⟩,
     ⟨⟨none, (some 82), .inl (.app 3 1 8 (.s 78) (.s 81))⟩, (some [.fr 82, .fr 78]), [], 15, false⟩,
     ⟨⟨none, (some 83), .inl (.mv (.s 10))⟩, (some []), [], 0, false⟩,
     ⟨⟨none, (some 84), .inl (.mv (.s 11))⟩, (some []), [], 0, false⟩,
     ⟨⟨none, (some 85), .inl (.bin .add (.s 84) (.c (.int .i64 1)))⟩, (some []), [], 64, false⟩,
     ⟨⟨none, (some 86), .inl (.slc 1 (.s 83) (some (.s 85)) none none)⟩, (some []), [.fr 78, .fr 82], 224, false⟩,
     ⟨⟨none, (some 87), .inl (.app 3 1 8 (.s 82) (.s 86))⟩, (some [.fr 87, .fr 82, .fr 78]), [], 511, false⟩,
     ⟨⟨none, (some 10), .inl (.mv (.s 87))⟩, (some []), [], 1023, false⟩])
  (.skip)))
  (.seq (.seq (.region [⟨none, (some 88), .inl (.mv (.s 12))⟩,
    ⟨none, (some 89), .inl (.bin .eql (.s 88) (.c (.int .i64 2)))⟩])
  (.cond (.s 89) (.draw [⟨⟨none, (some 90), .inl (.bs 3 1 0 [(.int .i64 0)] [])⟩, (some [.fr 90]), [], 0, false⟩,
     ⟨⟨none, (some 91), .inl (.mv (.s 10))⟩, (some []), [], 0, false⟩,
     ⟨⟨none, (some 92), .inl (.mv (.s 11))⟩, (some []), [], 0, false⟩,
     ⟨⟨none, (some 93), .inl (.slc 1 (.s 91) none (some (.s 92)) none)⟩, (some []), [.fr 90], 6, false⟩,
     ⟨⟨none, (some 94), .inl (.app 3 1 8 (.s 90) (.s 93))⟩, (some [.fr 94, .fr 90]), [], 15, false⟩,
     ⟨⟨none, (some 95), .inl (.iaa 3 1 (.s 5) (.c (.int .i64 2)))⟩, (some []), [], 0, false⟩,
     ⟨⟨none, (some 96), .inl (.ld false 1 (.s 95))⟩, (some []), [.fr 90, .fr 94], 32, false⟩,
     ⟨⟨none, (some 97), .inr (.fn 54 [(.s 96), (.c (.int .i64 3))])⟩, (some []), [], 127, false⟩,
     ⟨⟨none, (some 98), .inl (.bs 3 1 1 [(.int .i64 0)] [(0, (.s 97))])⟩, (some [.fr 98]), [], 255, false⟩,
     ⟨⟨none, (some 99), .inl (.app 3 1 8 (.s 94) (.s 98))⟩, (some [.fr 99, .fr 94, .fr 90]), [], 511, false⟩,
     ⟨⟨none, (some 100), .inl (.mv (.s 10))⟩, (some []), [], 0, false⟩,
     ⟨⟨none, (some 101), .inl (.mv (.s 11))⟩, (some []), [], 0, false⟩,
     ⟨⟨none, (some 102), .inl (.slc 1 (.s 100) (some (.s 101)) none none)⟩, (some []), [.fr 90, .fr 94, .fr 98, .fr 99], 3072, false⟩,
     ⟨⟨none, (some 103), .inl (.app 3 1 8 (.s 99) (.s 102))⟩, (some [.fr 103, .fr 99, .fr 94, .fr 90]), [], 8191, false⟩,
     ⟨⟨none, (some 10), .inl (.mv (.s 103))⟩, (some []), [], 16383, false⟩])
  (.skip)))
  (.seq (.region [⟨none, (some 104), .inl (.mv (.s 0))⟩,
    ⟨none, (some 105), .inl (.mv (.s 10))⟩,
    ⟨none, (some 106), .inr (.fn 53 [(.s 104), (.s 105)])⟩,
    ⟨none, (some 107), .inl (.mv (.s 0))⟩,
    ⟨none, (some 108), .inl (.mv (.s 10))⟩,
    ⟨none, (some 109), .inr (.fn 55 [(.s 107), (.s 108)])⟩,
    ⟨none, (some 110), .inl (.eq false .bool (.s 106) (.s 109))⟩,
    ⟨none, (some 6), .inl (.mv (.s 110))⟩])
  (.ret))))))))))))))
/-- gyttja/gyttjalaw01.SheetRaw -/
def k12 : Cd :=
  .seq (.region [⟨none, (some 4), .inl (.mv (.c (.bool false)))⟩])
  (.seq (.region [⟨none, (some 6), .inr (.fn 15 [])⟩,
    ⟨none, (some 5), .inl (.mv (.s 6))⟩])
  (.seq (.region [⟨none, (some 7), .inl (.mv (.s 0))⟩,
    ⟨none, (some 8), .inr (.fn 52 [(.s 7)])⟩,
    ⟨none, (some 0), .inl (.mv (.s 8))⟩])
  (.seq (.region [⟨none, (some 9), .inl (.mv (.s 1))⟩,
    ⟨none, (some 10), .inl (.mv (.s 1))⟩,
    ⟨none, (some 11), .inl (.len (.s 10))⟩,
    ⟨none, (some 12), .inl (.mm false (.s 11) (.c (.int .i64 300)))⟩,
    ⟨none, (some 13), .inl (.slc 1 (.s 9) none (some (.s 12)) none)⟩,
    ⟨none, (some 1), .inl (.mv (.s 13))⟩])
  (.seq (.region [⟨none, (some 14), .inl (.mv (.s 5))⟩,
    ⟨none, (some 15), .inl (.mv (.s 14))⟩,
    ⟨(some (15, true)), (some 16), .inl (.mv (.s 0))⟩,
    ⟨(some (15, true)), (some 17), .inl (.mv (.s 1))⟩,
    ⟨(some (15, true)), (some 18), .inr (.fn 53 [(.s 16), (.s 17)])⟩,
    ⟨(some (15, true)), (some 19), .inl (.mv (.s 0))⟩,
    ⟨(some (15, true)), (some 20), .inl (.mv (.s 1))⟩,
    ⟨(some (15, true)), (some 21), .inr (.fn 55 [(.s 19), (.s 20)])⟩,
    ⟨(some (15, true)), (some 22), .inl (.eq false .bool (.s 18) (.s 21))⟩,
    ⟨none, (some 23), .inl (.pick (.s 15) (.s 22) (.c (.bool false)))⟩,
    ⟨none, (some 4), .inl (.mv (.s 23))⟩])
  (.ret)))))
def k14l0 : Cd :=
  .seq (.seq (.region [⟨none, (some 78), .inl (.mv (.s 16))⟩,
    ⟨none, (some 79), .inl (.mv (.s 0))⟩,
    ⟨none, (some 80), .inl (.len (.s 79))⟩,
    ⟨none, (some 81), .inl (.bin .lss (.s 78) (.s 80))⟩])
  (.cond (.s 81) (.skip)
  (.exit 0)))
  (.seq (.block 1 (.seq (.region [⟨none, (some 85), .inl (.mv (.s 0))⟩,
    ⟨none, (some 86), .inl (.mv (.s 16))⟩,
    ⟨none, (some 87), .inl (.mv (.s 16))⟩,
    ⟨none, (some 88), .inl (.bin .add (.s 87) (.c (.int .i64 1)))⟩,
    ⟨none, (some 89), .inl (.slc 3 (.s 85) (some (.s 86)) (some (.s 88)) none)⟩,
    ⟨none, (some 90), .inr (.fn 32 [(.s 89)])⟩,
    ⟨none, (some 84), .inl (.mv (.s 90))⟩,
    ⟨none, (some 91), .inl (.ex (.s 84) 0)⟩,
    ⟨none, (some 92), .inl (.ex (.s 84) 1)⟩,
    ⟨none, (some 93), .inl (.ex (.s 84) 2)⟩,
    ⟨none, (some 17), .inl (.mv (.s 91))⟩,
    ⟨none, (some 18), .inl (.mv (.s 92))⟩,
    ⟨none, (some 19), .inl (.mv (.s 93))⟩])
  (.seq (.seq (.region [⟨none, (some 94), .inl (.mv (.s 19))⟩,
    ⟨none, (some 95), .inl (.bin .neq (.s 94) (.c (.int .i64 0)))⟩])
  (.cond (.s 95) (.seq (.region [⟨none, (some 6), .inl (.mv (.c (.bool false)))⟩])
   (.ret))
  (.skip)))
  (.seq (.region [⟨none, (some 96), .inl (.mv (.s 14))⟩,
    ⟨none, (some 97), .inl (.mv (.s 18))⟩,
    ⟨none, (some 98), .inl (.mv (.s 17))⟩,
    ⟨none, (some 99), .inl (.bin .sub (.s 97) (.s 98))⟩,
    ⟨none, (some 100), .inl (.mm false (.s 96) (.s 99))⟩,
    ⟨none, (some 20), .inl (.mv (.s 100))⟩])
  (.seq (.region [⟨none, (some 101), .inl (.mv (.s 14))⟩,
    ⟨none, (some 102), .inl (.mv (.s 20))⟩,
    ⟨none, (some 103), .inl (.bin .sub (.s 101) (.s 102))⟩,
    ⟨none, (some 14), .inl (.mv (.s 103))⟩])
  (.seq (.region [⟨none, (some 104), .inl (.mv (.s 0))⟩,
    ⟨none, (some 105), .inl (.mv (.s 16))⟩,
    ⟨none, (some 106), .inl (.ias 3 (.s 104) (.s 105))⟩,
    ⟨none, (some 107), .inl (.fa (.s 106) 0)⟩,
    ⟨none, (some 108), .inl (.ld false 1 (.s 107))⟩,
    ⟨none, (some 109), .inl (.bin .eql (.s 108) (.c (.int .i64 3)))⟩,
    ⟨none, (some 110), .inl (.mv (.s 109))⟩,
    ⟨(some (110, false)), (some 111), .inl (.mv (.s 0))⟩,
    ⟨(some (110, false)), (some 112), .inl (.mv (.s 16))⟩,
    ⟨(some (110, false)), (some 113), .inl (.ias 3 (.s 111) (.s 112))⟩,
    ⟨(some (110, false)), (some 114), .inl (.fa (.s 113) 0)⟩,
    ⟨(some (110, false)), (some 115), .inl (.ld false 1 (.s 114))⟩,
    ⟨(some (110, false)), (some 116), .inl (.bin .eql (.s 115) (.c (.int .i64 4)))⟩,
    ⟨none, (some 117), .inl (.pick (.s 110) (.c (.bool true)) (.s 116))⟩,
    ⟨none, (some 118), .inl (.mv (.s 117))⟩,
    ⟨(some (118, false)), (some 119), .inl (.mv (.s 0))⟩,
    ⟨(some (118, false)), (some 120), .inl (.mv (.s 16))⟩,
    ⟨(some (118, false)), (some 121), .inl (.ias 3 (.s 119) (.s 120))⟩,
    ⟨(some (118, false)), (some 122), .inl (.fa (.s 121) 0)⟩,
    ⟨(some (118, false)), (some 123), .inl (.ld false 1 (.s 122))⟩,
    ⟨(some (118, false)), (some 124), .inl (.bin .eql (.s 123) (.c (.int .i64 6)))⟩,
    ⟨none, (some 125), .inl (.pick (.s 118) (.c (.bool true)) (.s 124))⟩])
  (.cond (.s 125) (.region [⟨none, (some 126), .inl (.mv (.s 15))⟩,
     ⟨none, (some 127), .inl (.mv (.s 20))⟩,
     ⟨none, (some 128), .inl (.bs 3 1 1 [(.int .i64 0)] [(0, (.s 127))])⟩,
     ⟨none, (some 129), .inl (.app 3 1 8 (.s 126) (.s 128))⟩,
     ⟨none, (some 15), .inl (.mv (.s 129))⟩])
  (.skip))))))))
  (.region [⟨none, (some 82), .inl (.mv (.s 16))⟩,
    ⟨none, (some 83), .inl (.bin .add (.s 82) (.c (.int .i64 1)))⟩,
    ⟨none, (some 16), .inl (.mv (.s 83))⟩]))
/-- gyttja/gyttjalaw01.SheetBounds -/
def k14 : Cd :=
  .seq (.region [⟨none, (some 6), .inl (.mv (.c (.bool false)))⟩])
  (.seq (.region [⟨none, (some 23), .inr (.fn 15 [])⟩,
    ⟨none, (some 7), .inl (.mv (.s 23))⟩])
  (.seq (.region [⟨none, (some 24), .inl (.mv (.s 0))⟩,
    ⟨none, (some 25), .inr (.fn 52 [(.s 24)])⟩,
    ⟨none, (some 0), .inl (.mv (.s 25))⟩])
  (.seq (.region [⟨none, (some 27), .inl (.mv (.s 0))⟩,
    ⟨none, (some 28), .inr (.fn 32 [(.s 27)])⟩,
    ⟨none, (some 26), .inl (.mv (.s 28))⟩,
    ⟨none, (some 29), .inl (.ex (.s 26) 0)⟩,
    ⟨none, (some 30), .inl (.ex (.s 26) 1)⟩,
    ⟨none, (some 31), .inl (.ex (.s 26) 2)⟩,
    ⟨none, (some 8), .inl (.mv (.s 29))⟩,
    ⟨none, (some 9), .inl (.mv (.s 30))⟩,
    ⟨none, (some 10), .inl (.mv (.s 31))⟩])
  (.seq (.region [⟨none, (some 33), .inl (.mv (.s 0))⟩,
    ⟨none, (some 34), .inl (.mv (.s 1))⟩,
    ⟨none, (some 35), .inr (.fn 48 [(.s 33), (.s 34)])⟩,
    ⟨none, (some 32), .inl (.mv (.s 35))⟩,
    ⟨none, (some 36), .inl (.ex (.s 32) 0)⟩,
    ⟨none, (some 37), .inl (.ex (.s 32) 1)⟩,
    ⟨none, (some 11), .inl (.mv (.s 36))⟩,
    ⟨none, (some 12), .inl (.mv (.s 37))⟩])
  (.seq (.seq (.region [⟨none, (some 38), .inl (.mv (.s 10))⟩,
    ⟨none, (some 39), .inl (.mv (.s 12))⟩,
    ⟨none, (some 40), .inl (.bin .neq (.s 38) (.s 39))⟩,
    ⟨none, (some 41), .inl (.mv (.s 40))⟩,
    ⟨(some (41, false)), (some 42), .inl (.mv (.s 10))⟩,
    ⟨(some (41, false)), (some 43), .inl (.bin .neq (.s 42) (.c (.int .i64 0)))⟩,
    ⟨none, (some 44), .inl (.pick (.s 41) (.c (.bool true)) (.s 43))⟩])
  (.cond (.s 44) (.seq (.region [⟨none, (some 45), .inl (.mv (.s 7))⟩,
     ⟨none, (some 46), .inl (.mv (.s 45))⟩,
     ⟨(some (46, true)), (some 47), .inl (.mv (.s 10))⟩,
     ⟨(some (46, true)), (some 48), .inl (.mv (.s 12))⟩,
     ⟨(some (46, true)), (some 49), .inl (.bin .eql (.s 47) (.s 48))⟩,
     ⟨none, (some 50), .inl (.pick (.s 46) (.s 49) (.c (.bool false)))⟩,
     ⟨none, (some 6), .inl (.mv (.s 50))⟩])
   (.ret))
  (.skip)))
  (.seq (.seq (.region [⟨none, (some 51), .inl (.mv (.s 11))⟩,
    ⟨none, (some 52), .inl (.len (.s 51))⟩,
    ⟨none, (some 53), .inl (.mv (.s 8))⟩,
    ⟨none, (some 54), .inl (.bin .lss (.s 52) (.s 53))⟩,
    ⟨none, (some 55), .inl (.mv (.s 54))⟩,
    ⟨(some (55, false)), (some 56), .inl (.mv (.s 11))⟩,
    ⟨(some (55, false)), (some 57), .inl (.len (.s 56))⟩,
    ⟨(some (55, false)), (some 58), .inl (.mv (.s 9))⟩,
    ⟨(some (55, false)), (some 59), .inl (.bin .gtr (.s 57) (.s 58))⟩,
    ⟨none, (some 60), .inl (.pick (.s 55) (.c (.bool true)) (.s 59))⟩,
    ⟨none, (some 61), .inl (.mv (.s 60))⟩,
    ⟨(some (61, false)), (some 62), .inl (.mv (.s 0))⟩,
    ⟨(some (61, false)), (some 63), .inl (.mv (.s 11))⟩,
    ⟨(some (61, false)), (some 64), .inr (.fn 53 [(.s 62), (.s 63)])⟩,
    ⟨(some (61, false)), (some 65), .inl (.not (.s 64))⟩,
    ⟨none, (some 66), .inl (.pick (.s 61) (.c (.bool true)) (.s 65))⟩])
  (.cond (.s 66) (.seq (.region [⟨none, (some 6), .inl (.mv (.c (.bool false)))⟩])
   (.ret))
  (.skip)))
  (.seq (.region [⟨none, (some 67), .inl (.mv (.s 8))⟩,
    ⟨none, (some 68), .inl (.mv (.s 2))⟩,
    ⟨none, (some 69), .inl (.mv (.s 9))⟩,
    ⟨none, (some 70), .inl (.mv (.s 8))⟩,
    ⟨none, (some 71), .inl (.bin .sub (.s 69) (.s 70))⟩,
    ⟨none, (some 72), .inl (.bin .add (.s 71) (.c (.int .i64 1)))⟩,
    ⟨none, (some 73), .inr (.fn 54 [(.s 68), (.s 72)])⟩,
    ⟨none, (some 74), .inl (.bin .add (.s 67) (.s 73))⟩,
    ⟨none, (some 13), .inl (.mv (.s 74))⟩])
  (.seq (.region [⟨none, (some 75), .inl (.mv (.s 13))⟩,
    ⟨none, (some 76), .inl (.mv (.s 8))⟩,
    ⟨none, (some 77), .inl (.bin .sub (.s 75) (.s 76))⟩,
    ⟨none, (some 14), .inl (.mv (.s 77))⟩])
  (.seq (.region [⟨none, (some 15), .inl (.mv (.c (.slice none 0 0)))⟩])
  (.seq (.seq (.region [⟨none, (some 16), .inl (.mv (.c (.int .i64 0)))⟩])
  (.block 0 (.loop k14l0)))
  (.seq (.region [⟨none, (some 131), .inl (.mv (.s 0))⟩,
    ⟨none, (some 132), .inl (.mv (.s 15))⟩,
    ⟨none, (some 133), .inr (.fn 48 [(.s 131), (.s 132)])⟩,
    ⟨none, (some 130), .inl (.mv (.s 133))⟩,
    ⟨none, (some 134), .inl (.ex (.s 130) 0)⟩,
    ⟨none, (some 135), .inl (.ex (.s 130) 1)⟩,
    ⟨none, (some 21), .inl (.mv (.s 134))⟩,
    ⟨none, (some 22), .inl (.mv (.s 135))⟩])
  (.seq (.region [⟨none, (some 136), .inl (.mv (.s 7))⟩,
    ⟨none, (some 137), .inl (.mv (.s 136))⟩,
    ⟨(some (137, true)), (some 138), .inl (.mv (.s 22))⟩,
    ⟨(some (137, true)), (some 139), .inl (.bin .eql (.s 138) (.c (.int .i64 0)))⟩,
    ⟨none, (some 140), .inl (.pick (.s 137) (.s 139) (.c (.bool false)))⟩,
    ⟨none, (some 141), .inl (.mv (.s 140))⟩,
    ⟨(some (141, true)), (some 142), .inl (.mv (.s 21))⟩,
    ⟨(some (141, true)), (some 143), .inl (.len (.s 142))⟩,
    ⟨(some (141, true)), (some 144), .inl (.mv (.s 13))⟩,
    ⟨(some (141, true)), (some 145), .inl (.bin .eql (.s 143) (.s 144))⟩,
    ⟨none, (some 146), .inl (.pick (.s 141) (.s 145) (.c (.bool false)))⟩,
    ⟨none, (some 147), .inl (.mv (.s 146))⟩,
    ⟨(some (147, true)), (some 148), .inl (.mv (.s 0))⟩,
    ⟨(some (147, true)), (some 149), .inl (.mv (.s 21))⟩,
    ⟨(some (147, true)), (some 150), .inr (.fn 53 [(.s 148), (.s 149)])⟩,
    ⟨none, (some 151), .inl (.pick (.s 147) (.s 150) (.c (.bool false)))⟩,
    ⟨none, (some 6), .inl (.mv (.s 151))⟩])
  (.ret)))))))))))))
/-- gyttja/gyttjalaw01.sane -/
def k15 : Cd :=
  .seq (.region [⟨none, (some 0), .inl (.mv (.c (.bool false)))⟩])
  (.seq (.region [⟨none, (some 11), .inr (.fn 61 [])⟩,
    ⟨none, (some 1), .inl (.alloc 26 [(.int .i64 0), (.int .i64 0), (.int .i64 0), (.slice none 0 0)])⟩,
    ⟨none, none, .inl (.st 4 (.s 1) (.s 11))⟩])
  (.seq (.region [⟨none, (some 13), .inl (.ld true 4 (.s 1))⟩,
    ⟨none, (some 14), .inr (.fn 39 [(.s 13), (.c (.int .i64 138)), (.c (.int .i64 134))])⟩,
    ⟨none, (some 12), .inl (.mv (.s 14))⟩,
    ⟨none, (some 15), .inl (.ex (.s 12) 0)⟩,
    ⟨none, (some 16), .inl (.ex (.s 12) 1)⟩,
    ⟨none, (some 2), .inl (.alloc 56 [(.int .i64 0), (.int .i64 0), (.int .i64 0), (.int .i64 0)])⟩,
    ⟨none, none, .inl (.st 4 (.s 2) (.s 15))⟩,
    ⟨none, (some 3), .inl (.mv (.s 16))⟩])
  (.seq (.region [⟨none, (some 18), .inl (.fa (.s 1) 3)⟩,
    ⟨none, (some 19), .inl (.ld false 1 (.s 18))⟩,
    ⟨none, (some 20), .inl (.slc 3 (.s 19) (some (.c (.int .i64 1))) (some (.c (.int .i64 3))) none)⟩,
    ⟨none, (some 21), .inl (.bs 3 1 1 [(.int .i64 0)] [(0, (.c (.int .i64 1)))])⟩,
    ⟨none, (some 22), .inr (.fn 48 [(.s 20), (.s 21)])⟩,
    ⟨none, (some 17), .inl (.mv (.s 22))⟩,
    ⟨none, (some 23), .inl (.ex (.s 17) 0)⟩,
    ⟨none, (some 24), .inl (.ex (.s 17) 1)⟩,
    ⟨none, (some 4), .inl (.mv (.s 23))⟩,
    ⟨none, (some 5), .inl (.mv (.s 24))⟩])
  (.seq (.region [⟨none, (some 26), .inr (.fn 27 [(.c (.string ⟨#[115, 104, 101, 101, 116, 32, 49, 32, 114, 101, 97, 100, 101, 114, 32, 50, 32, 99, 111, 114, 101, 32, 51, 10, 10, 121, 101, 97, 114, 115, 32, 52]⟩))])⟩,
    ⟨none, (some 25), .inl (.mv (.s 26))⟩,
    ⟨none, (some 27), .inl (.ex (.s 25) 0)⟩,
    ⟨none, (some 28), .inl (.ex (.s 25) 1)⟩,
    ⟨none, (some 29), .inl (.ex (.s 25) 2)⟩,
    ⟨none, (some 6), .inl (.alloc 26 [(.int .i64 0), (.int .i64 0), (.int .i64 0), (.slice none 0 0)])⟩,
    ⟨none, none, .inl (.st 4 (.s 6) (.s 27))⟩,
    ⟨none, (some 7), .inl (.mv (.s 28))⟩,
    ⟨none, (some 8), .inl (.mv (.s 29))⟩])
  (.seq (.region [⟨none, (some 31), .inl (.fa (.s 1) 3)⟩,
    ⟨none, (some 32), .inl (.ld false 1 (.s 31))⟩,
    ⟨none, (some 33), .inl (.slc 3 (.s 32) (some (.c (.int .i64 4))) (some (.c (.int .i64 7))) none)⟩,
    ⟨none, (some 34), .inr (.fn 34 [(.s 33)])⟩,
    ⟨none, (some 30), .inl (.mv (.s 34))⟩,
    ⟨none, (some 35), .inl (.ex (.s 30) 0)⟩,
    ⟨none, (some 36), .inl (.ex (.s 30) 1)⟩,
    ⟨none, (some 9), .inl (.mv (.s 35))⟩,
    ⟨none, (some 10), .inl (.mv (.s 36))⟩])
  (.seq (.region [⟨none, (some 37), .inl (.mv (.s 3))⟩,
    ⟨none, (some 38), .inl (.bin .eql (.s 37) (.c (.int .i64 0)))⟩,
    ⟨none, (some 39), .inl (.mv (.s 38))⟩,
    ⟨(some (39, true)), (some 40), .inl (.ld true 4 (.s 2))⟩,
    ⟨(some (39, true)), (some 41), .inl (.bld [(.int .i64 0), (.int .i64 0), (.int .i64 0), (.int .i64 0)] [(0, 1, (.c (.int .i64 138))), (1, 1, (.c (.int .i64 134))), (2, 1, (.c (.int .i64 (-8)))), (3, 1, (.c (.int .i64 (-3))))])⟩,
    ⟨(some (39, true)), (some 42), .inl (.eq false (.cells [.int, .int, .int, .int]) (.s 40) (.s 41))⟩,
    ⟨none, (some 43), .inl (.pick (.s 39) (.s 42) (.c (.bool false)))⟩,
    ⟨none, (some 44), .inl (.mv (.s 43))⟩,
    ⟨(some (44, true)), (some 45), .inl (.mv (.s 5))⟩,
    ⟨(some (44, true)), (some 46), .inl (.bin .eql (.s 45) (.c (.int .i64 0)))⟩,
    ⟨none, (some 47), .inl (.pick (.s 44) (.s 46) (.c (.bool false)))⟩,
    ⟨none, (some 48), .inl (.mv (.s 47))⟩,
    ⟨(some (48, true)), (some 49), .inl (.mv (.s 4))⟩,
    ⟨(some (48, true)), (some 50), .inl (.len (.s 49))⟩,
    ⟨(some (48, true)), (some 51), .inl (.bin .eql (.s 50) (.c (.int .i64 3)))⟩,
    ⟨none, (some 52), .inl (.pick (.s 48) (.s 51) (.c (.bool false)))⟩,
    ⟨none, (some 53), .inl (.mv (.s 52))⟩,
    ⟨(some (53, true)), (some 54), .inl (.mv (.s 4))⟩,
    ⟨(some (53, true)), (some 55), .inl (.ias 1 (.s 54) (.c (.int .i64 0)))⟩,
    ⟨(some (53, true)), (some 56), .inl (.ld false 1 (.s 55))⟩,
    ⟨(some (53, true)), (some 57), .inl (.bin .eql (.s 56) (.c (.int .i64 120)))⟩,
    ⟨none, (some 58), .inl (.pick (.s 53) (.s 57) (.c (.bool false)))⟩,
    ⟨none, (some 59), .inl (.mv (.s 58))⟩,
    ⟨(some (59, true)), (some 60), .inl (.mv (.s 4))⟩,
    ⟨(some (59, true)), (some 61), .inl (.ias 1 (.s 60) (.c (.int .i64 2)))⟩,
    ⟨(some (59, true)), (some 62), .inl (.ld false 1 (.s 61))⟩,
    ⟨(some (59, true)), (some 63), .inl (.bin .eql (.s 62) (.c (.int .i64 95)))⟩,
    ⟨none, (some 64), .inl (.pick (.s 59) (.s 63) (.c (.bool false)))⟩,
    ⟨none, (some 65), .inl (.mv (.s 64))⟩,
    ⟨(some (65, true)), (some 66), .inl (.mv (.s 8))⟩,
    ⟨(some (65, true)), (some 67), .inl (.bin .eql (.s 66) (.c (.int .i64 12)))⟩,
    ⟨none, (some 68), .inl (.pick (.s 65) (.s 67) (.c (.bool false)))⟩,
    ⟨none, (some 69), .inl (.mv (.s 68))⟩,
    ⟨(some (69, true)), (some 70), .inl (.mv (.s 7))⟩,
    ⟨(some (69, true)), (some 71), .inl (.bin .eql (.s 70) (.c (.int .i64 3)))⟩,
    ⟨none, (some 72), .inl (.pick (.s 69) (.s 71) (.c (.bool false)))⟩,
    ⟨none, (some 73), .inl (.mv (.s 72))⟩,
    ⟨(some (73, true)), (some 74), .inl (.mv (.s 10))⟩,
    ⟨(some (73, true)), (some 75), .inl (.bin .eql (.s 74) (.c (.int .i64 13)))⟩,
    ⟨none, (some 76), .inl (.pick (.s 73) (.s 75) (.c (.bool false)))⟩,
    ⟨none, (some 77), .inl (.mv (.s 76))⟩,
    ⟨(some (77, true)), (some 78), .inr (.fn 25 [(.c (.int .i64 2)), (.c (.int .i64 5))])⟩,
    ⟨(some (77, true)), (some 79), .inl (.bin .eql (.s 78) (.c (.int .i64 134)))⟩,
    ⟨none, (some 80), .inl (.pick (.s 77) (.s 79) (.c (.bool false)))⟩,
    ⟨none, (some 0), .inl (.mv (.s 80))⟩])
  (.ret)))))))
def k16l0 : Cd :=
  .region [⟨none, (some 5), .inl (.alloc 23 [(.int .i64 0), (.int .i64 0), (.int .i64 0)])⟩,
    ⟨none, none, .inl (.st 3 (.s 5) (.s 12))⟩]
def k16l1 : Cd :=
  .block 1 (.seq (.region [⟨none, (some 13), .inl (.fa (.s 5) 0)⟩,
    ⟨none, (some 14), .inl (.ld false 1 (.s 13))⟩,
    ⟨none, (some 15), .inl (.bin .eql (.s 14) (.c (.int .i64 1)))⟩])
  (.cond (.s 15) (.draw [⟨⟨none, (some 16), .inl (.ld false 1 (.s 3))⟩, (some []), [.fr 22], 0, false⟩,
     ⟨⟨none, (some 17), .inl (.fa (.s 1) 2)⟩, (some []), [], 0, false⟩,
     ⟨⟨none, (some 18), .inl (.ld false 1 (.s 17))⟩, (some []), [], 2, false⟩,
     ⟨⟨none, (some 19), .inl (.fa (.s 5) 1)⟩, (some []), [], 0, false⟩,
     ⟨⟨none, (some 20), .inl (.ld false 1 (.s 19))⟩, (some []), [], 8, false⟩,
     ⟨⟨none, (some 21), .inr (.fn 25 [(.s 18), (.s 20)])⟩, (some []), [], 30, false⟩,
     ⟨⟨none, (some 22), .inl (.bs 3 1 1 [(.int .i64 0)] [(0, (.s 21))])⟩, (some [.fr 22]), [], 62, false⟩,
     ⟨⟨none, (some 23), .inl (.app 3 1 8 (.s 16) (.s 22))⟩, (some [.fr 23, .at 16]), [], 127, false⟩,
     ⟨⟨none, none, .inl (.st 1 (.s 3) (.s 23))⟩, (some [.at 3]), [], 255, false⟩])
  (.skip)))
/-- gyttja/sheet.Marks -/
def k16 : Cd :=
  .seq (.region [⟨none, (some 1), .inl (.box 26 4 (.s 0))⟩,
    ⟨none, (some 2), .inl (.mv (.c (.slice none 0 0)))⟩])
  (.seq (.seq (.region [⟨none, (some 6), .inl (.ld true 4 (.s 1))⟩,
    ⟨none, (some 7), .inr (.fn 23 [(.s 6)])⟩,
    ⟨none, (some 8), .inl (.bin .neq (.s 7) (.c (.int .i64 0)))⟩])
  (.cond (.s 8) (.seq (.region [⟨none, (some 2), .inl (.mv (.c (.slice none 0 0)))⟩])
   (.ret))
  (.skip)))
  (.seq (.region [⟨none, (some 3), .inl (.alloc 29 [(.slice none 0 0)])⟩])
  (.seq (.seq (.region [⟨none, (some 9), .inl (.ld true 4 (.s 1))⟩,
    ⟨none, (some 10), .inr (.fn 62 [(.s 9)])⟩])
  (.block 0 (.rangeF (.s 10) [11, 12] k16l0 k16l1)))
  (.seq (.region [⟨none, (some 24), .inl (.ld false 1 (.s 3))⟩,
    ⟨none, (some 2), .inl (.mv (.s 24))⟩])
  (.ret)))))
def k17l0 : Cd :=
  .seq (.seq (.region [⟨none, (some 12), .inl (.mv (.s 6))⟩,
    ⟨none, (some 13), .inl (.mv (.s 0))⟩,
    ⟨none, (some 14), .inl (.len (.s 13))⟩,
    ⟨none, (some 15), .inl (.bin .lss (.s 12) (.s 14))⟩,
    ⟨none, (some 16), .inl (.mv (.s 15))⟩,
    ⟨(some (16, true)), (some 17), .inl (.mv (.s 5))⟩,
    ⟨none, (some 18), .inl (.pick (.s 16) (.s 17) (.c (.bool false)))⟩])
  (.cond (.s 18) (.skip)
  (.exit 0)))
  (.seq (.block 1 (.draw [⟨⟨none, (some 21), .inl (.mv (.s 0))⟩, (some []), [], 0, false⟩,
    ⟨⟨none, (some 22), .inl (.mv (.s 6))⟩, (some []), [], 0, false⟩,
    ⟨⟨none, (some 23), .inl (.ias 1 (.s 21) (.s 22))⟩, (some []), [], 3, false⟩,
    ⟨⟨none, (some 24), .inl (.ld false 1 (.s 23))⟩, (some []), [], 7, false⟩,
    ⟨⟨none, (some 25), .inl (.mv (.s 1))⟩, (some []), [], 0, false⟩,
    ⟨⟨none, (some 26), .inl (.mv (.s 6))⟩, (some []), [], 0, false⟩,
    ⟨⟨none, (some 27), .inl (.ias 1 (.s 25) (.s 26))⟩, (some []), [], 48, false⟩,
    ⟨⟨none, (some 28), .inl (.ld false 1 (.s 27))⟩, (some []), [], 112, false⟩,
    ⟨⟨none, (some 29), .inl (.bin .eql (.s 24) (.s 28))⟩, (some []), [], 255, false⟩,
    ⟨⟨none, (some 5), .inl (.mv (.s 29))⟩, (some []), [], 511, false⟩]))
  (.region [⟨none, (some 19), .inl (.mv (.s 6))⟩,
    ⟨none, (some 20), .inl (.bin .add (.s 19) (.c (.int .i64 1)))⟩,
    ⟨none, (some 6), .inl (.mv (.s 20))⟩]))
/-- gyttja/gyttjaref01.SameInts -/
def k17 : Cd :=
  .seq (.region [⟨none, (some 4), .inl (.mv (.c (.bool false)))⟩])
  (.seq (.region [⟨none, (some 7), .inl (.mv (.s 0))⟩,
    ⟨none, (some 8), .inl (.len (.s 7))⟩,
    ⟨none, (some 9), .inl (.mv (.s 1))⟩,
    ⟨none, (some 10), .inl (.len (.s 9))⟩,
    ⟨none, (some 11), .inl (.bin .eql (.s 8) (.s 10))⟩,
    ⟨none, (some 5), .inl (.mv (.s 11))⟩])
  (.seq (.seq (.region [⟨none, (some 6), .inl (.mv (.c (.int .i64 0)))⟩])
  (.block 0 (.loop k17l0)))
  (.seq (.region [⟨none, (some 30), .inl (.mv (.s 5))⟩,
    ⟨none, (some 4), .inl (.mv (.s 30))⟩])
  (.ret))))
def k18l0 : Cd :=
  .seq (.seq (.region [⟨none, (some 8), .inl (.mv (.s 4))⟩,
    ⟨none, (some 9), .inl (.fa (.s 1) 3)⟩,
    ⟨none, (some 10), .inl (.ld false 1 (.s 9))⟩,
    ⟨none, (some 11), .inl (.len (.s 10))⟩,
    ⟨none, (some 12), .inl (.bin .lss (.s 8) (.s 11))⟩])
  (.cond (.s 12) (.skip)
  (.exit 0)))
  (.seq (.block 1 (.seq (.region [⟨none, (some 15), .inl (.fa (.s 1) 3)⟩,
    ⟨none, (some 16), .inl (.ld false 1 (.s 15))⟩,
    ⟨none, (some 17), .inl (.mv (.s 4))⟩,
    ⟨none, (some 18), .inl (.ias 3 (.s 16) (.s 17))⟩,
    ⟨none, (some 19), .inl (.fa (.s 18) 0)⟩,
    ⟨none, (some 20), .inl (.ld false 1 (.s 19))⟩,
    ⟨none, (some 21), .inl (.bin .eql (.s 20) (.c (.int .i64 1)))⟩])
  (.cond (.s 21) (.draw [⟨⟨none, (some 22), .inl (.mv (.s 3))⟩, (some []), [], 0, false⟩,
     ⟨⟨none, (some 23), .inl (.fa (.s 1) 2)⟩, (some []), [], 0, false⟩,
     ⟨⟨none, (some 24), .inl (.ld false 1 (.s 23))⟩, (some []), [], 2, false⟩,
     ⟨⟨none, (some 25), .inl (.fa (.s 1) 3)⟩, (some []), [], 0, false⟩,
     ⟨⟨none, (some 26), .inl (.ld false 1 (.s 25))⟩, (some []), [], 8, false⟩,
     ⟨⟨none, (some 27), .inl (.mv (.s 4))⟩, (some []), [], 0, false⟩,
     ⟨⟨none, (some 28), .inl (.ias 3 (.s 26) (.s 27))⟩, (some []), [], 56, false⟩,
     ⟨⟨none, (some 29), .inl (.fa (.s 28) 1)⟩, (some []), [], 120, false⟩,
     ⟨⟨none, (some 30), .inl (.ld false 1 (.s 29))⟩, (some []), [], 248, false⟩,
     ⟨⟨none, (some 31), .inr (.fn 26 [(.s 24), (.s 30)])⟩, (some []), [], 510, false⟩,
     ⟨⟨none, (some 32), .inl (.bs 3 1 1 [(.int .i64 0)] [(0, (.s 31))])⟩, (some [.fr 32]), [], 1022, false⟩,
     ⟨⟨none, (some 33), .inl (.app 3 1 8 (.s 22) (.s 32))⟩, (some [.fr 33, .at 3]), [], 2047, false⟩,
     ⟨⟨none, (some 3), .inl (.mv (.s 33))⟩, (some []), [], 4095, false⟩])
  (.skip))))
  (.region [⟨none, (some 13), .inl (.mv (.s 4))⟩,
    ⟨none, (some 14), .inl (.bin .add (.s 13) (.c (.int .i64 1)))⟩,
    ⟨none, (some 4), .inl (.mv (.s 14))⟩]))
/-- gyttja/gyttjaref01.Marks -/
def k18 : Cd :=
  .seq (.region [⟨none, (some 1), .inl (.box 26 4 (.s 0))⟩,
    ⟨none, (some 2), .inl (.mv (.c (.slice none 0 0)))⟩])
  (.seq (.seq (.region [⟨none, (some 5), .inl (.ld true 4 (.s 1))⟩,
    ⟨none, (some 6), .inr (.fn 24 [(.s 5)])⟩,
    ⟨none, (some 7), .inl (.bin .neq (.s 6) (.c (.int .i64 0)))⟩])
  (.cond (.s 7) (.seq (.region [⟨none, (some 2), .inl (.mv (.c (.slice none 0 0)))⟩])
   (.ret))
  (.skip)))
  (.seq (.region [⟨none, (some 3), .inl (.mv (.c (.slice none 0 0)))⟩])
  (.seq (.seq (.region [⟨none, (some 4), .inl (.mv (.c (.int .i64 0)))⟩])
  (.block 0 (.loop k18l0)))
  (.seq (.region [⟨none, (some 34), .inl (.mv (.s 3))⟩,
    ⟨none, (some 2), .inl (.mv (.s 34))⟩])
  (.ret)))))
/-- gyttja/sheet.Place -/
def k19 : Cd :=
  .seq (.region [⟨none, (some 2), .inl (.mv (.c (.int .i64 0)))⟩,
    ⟨none, (some 3), .inl (.mv (.c (.int .i64 0)))⟩])
  (.seq (.seq (.region [⟨none, (some 4), .inl (.mv (.s 0))⟩,
    ⟨none, (some 5), .inr (.fn 63 [(.s 4), (.c (.int .i64 1)), (.c (.int .i64 2048))])⟩,
    ⟨none, (some 6), .inl (.not (.s 5))⟩])
  (.cond (.s 6) (.seq (.region [⟨none, (some 2), .inl (.mv (.c (.int .i64 (-1))))⟩,
     ⟨none, (some 3), .inl (.mv (.c (.int .i64 (-1))))⟩])
   (.ret))
  (.skip)))
  (.seq (.region [⟨none, (some 7), .inl (.mv (.s 0))⟩,
    ⟨none, (some 8), .inl (.bin .sub (.s 7) (.c (.int .i64 1)))⟩,
    ⟨none, (some 9), .inl (.bin .quo (.s 8) (.c (.int .i64 64)))⟩,
    ⟨none, (some 10), .inl (.mv (.s 0))⟩,
    ⟨none, (some 11), .inl (.bin .sub (.s 10) (.c (.int .i64 1)))⟩,
    ⟨none, (some 12), .inl (.bin .rem (.s 11) (.c (.int .i64 64)))⟩,
    ⟨none, (some 2), .inl (.mv (.s 9))⟩,
    ⟨none, (some 3), .inl (.mv (.s 12))⟩])
  (.ret)))
/-- gyttja/gyttjaref01.Place -/
def k20 : Cd :=
  .seq (.region [⟨none, (some 2), .inl (.mv (.c (.int .i64 0)))⟩,
    ⟨none, (some 3), .inl (.mv (.c (.int .i64 0)))⟩])
  (.seq (.seq (.region [⟨none, (some 4), .inl (.mv (.s 0))⟩,
    ⟨none, (some 5), .inr (.fn 64 [(.s 4), (.c (.int .i64 1)), (.c (.int .i64 2048))])⟩,
    ⟨none, (some 6), .inl (.not (.s 5))⟩])
  (.cond (.s 6) (.seq (.region [⟨none, (some 2), .inl (.mv (.c (.int .i64 (-1))))⟩,
     ⟨none, (some 3), .inl (.mv (.c (.int .i64 (-1))))⟩])
   (.ret))
  (.skip)))
  (.seq (.region [⟨none, (some 7), .inl (.mv (.s 0))⟩,
    ⟨none, (some 8), .inl (.bin .sub (.s 7) (.c (.int .i64 1)))⟩,
    ⟨none, (some 9), .inl (.bin .quo (.s 8) (.c (.int .i64 64)))⟩,
    ⟨none, (some 10), .inl (.mv (.s 0))⟩,
    ⟨none, (some 11), .inl (.bin .sub (.s 10) (.c (.int .i64 1)))⟩,
    ⟨none, (some 12), .inl (.bin .rem (.s 11) (.c (.int .i64 64)))⟩,
    ⟨none, (some 2), .inl (.mv (.s 9))⟩,
    ⟨none, (some 3), .inl (.mv (.s 12))⟩])
  (.ret)))
/-- gyttja/sheet.CheckRow -/
def k21 : Cd :=
  .seq (.region [⟨none, (some 1), .inl (.box 23 3 (.s 0))⟩,
    ⟨none, (some 2), .inl (.mv (.c (.int .i64 0)))⟩])
  (.seq (.seq (.draw [⟨⟨none, (some 3), .inr (.fn 66 [])⟩, (some []), [], 0, false⟩,
    ⟨⟨none, (some 4), .inl (.ld true 3 (.s 1))⟩, (some []), [], 0, false⟩,
    ⟨⟨none, (some 5), .inr (.fn 65 [(.s 3), (.s 4)])⟩, (some []), [], 3, false⟩,
    ⟨⟨none, (some 6), .inl (.fd false 1 0 (.s 5))⟩, (some []), [], 7, false⟩,
    ⟨⟨none, (some 7), .inl (.not (.s 6))⟩, (some []), [], 15, false⟩])
  (.cond (.s 7) (.seq (.region [⟨none, (some 2), .inl (.mv (.c (.int .i64 10)))⟩])
   (.ret))
  (.skip)))
  (.seq (.region [⟨none, (some 2), .inl (.mv (.c (.int .i64 0)))⟩])
  (.ret)))
/-- gyttja/gyttjaref01.CheckRow -/
def k22 : Cd :=
  .seq (.region [⟨none, (some 1), .inl (.box 23 3 (.s 0))⟩,
    ⟨none, (some 2), .inl (.mv (.c (.int .i64 0)))⟩])
  (.seq (.region [⟨none, (some 3), .inl (.mv (.c (.bool false)))⟩])
  (.seq (.seq (.region [⟨none, (some 4), .inl (.fa (.s 1) 0)⟩,
    ⟨none, (some 5), .inl (.ld false 1 (.s 4))⟩])
  (.block 0 (.seq (.region [⟨none, (some 7), .inl (.bin .eql (.s 5) (.c (.int .i64 1)))⟩,
    ⟨none, (some 6), .inl (.mv (.s 7))⟩])
  (.cond (.s 6) (.region [⟨none, (some 8), .inl (.fa (.s 1) 1)⟩,
     ⟨none, (some 9), .inl (.ld false 1 (.s 8))⟩,
     ⟨none, (some 10), .inr (.fn 64 [(.s 9), (.c (.int .i64 0)), (.c (.int .i64 63))])⟩,
     ⟨none, (some 11), .inl (.mv (.s 10))⟩,
     ⟨(some (11, true)), (some 12), .inl (.fa (.s 1) 2)⟩,
     ⟨(some (11, true)), (some 13), .inl (.ld false 1 (.s 12))⟩,
     ⟨(some (11, true)), (some 14), .inl (.bin .eql (.s 13) (.c (.int .i64 0)))⟩,
     ⟨none, (some 15), .inl (.pick (.s 11) (.s 14) (.c (.bool false)))⟩,
     ⟨none, (some 3), .inl (.mv (.s 15))⟩])
  (.seq (.seq (.region [⟨none, (some 17), .inl (.bin .eql (.s 5) (.c (.int .i64 2)))⟩,
     ⟨none, (some 16), .inl (.mv (.s 17))⟩])
   (.cond (.s 16) (.skip)
   (.region [⟨none, (some 18), .inl (.bin .eql (.s 5) (.c (.int .i64 5)))⟩,
      ⟨none, (some 16), .inl (.mv (.s 18))⟩])))
   (.cond (.s 16) (.region [⟨none, (some 19), .inl (.fa (.s 1) 1)⟩,
      ⟨none, (some 20), .inl (.ld false 1 (.s 19))⟩,
      ⟨none, (some 21), .inr (.fn 64 [(.s 20), (.c (.int .i64 1)), (.c (.int .i64 100000))])⟩,
      ⟨none, (some 22), .inl (.mv (.s 21))⟩,
      ⟨(some (22, true)), (some 23), .inl (.fa (.s 1) 2)⟩,
      ⟨(some (22, true)), (some 24), .inl (.ld false 1 (.s 23))⟩,
      ⟨(some (22, true)), (some 25), .inl (.bin .eql (.s 24) (.c (.int .i64 0)))⟩,
      ⟨none, (some 26), .inl (.pick (.s 22) (.s 25) (.c (.bool false)))⟩,
      ⟨none, (some 3), .inl (.mv (.s 26))⟩])
   (.seq (.region [⟨none, (some 28), .inl (.bin .eql (.s 5) (.c (.int .i64 3)))⟩,
      ⟨none, (some 27), .inl (.mv (.s 28))⟩])
    (.cond (.s 27) (.region [⟨none, (some 29), .inl (.fa (.s 1) 1)⟩,
       ⟨none, (some 30), .inl (.ld false 1 (.s 29))⟩,
       ⟨none, (some 31), .inr (.fn 64 [(.s 30), (.c (.int .i64 1)), (.c (.int .i64 100000))])⟩,
       ⟨none, (some 32), .inl (.mv (.s 31))⟩,
       ⟨(some (32, true)), (some 33), .inl (.fa (.s 1) 2)⟩,
       ⟨(some (32, true)), (some 34), .inl (.ld false 1 (.s 33))⟩,
       ⟨(some (32, true)), (some 35), .inr (.fn 64 [(.s 34), (.c (.int .i64 1)), (.c (.int .i64 100000))])⟩,
       ⟨none, (some 36), .inl (.pick (.s 32) (.s 35) (.c (.bool false)))⟩,
       ⟨none, (some 3), .inl (.mv (.s 36))⟩])
    (.seq (.region [⟨none, (some 38), .inl (.bin .eql (.s 5) (.c (.int .i64 4)))⟩,
       ⟨none, (some 37), .inl (.mv (.s 38))⟩])
     (.cond (.s 37) (.region [⟨none, (some 39), .inl (.fa (.s 1) 1)⟩,
        ⟨none, (some 40), .inl (.ld false 1 (.s 39))⟩,
        ⟨none, (some 41), .inr (.fn 64 [(.s 40), (.c (.int .i64 1)), (.c (.int .i64 1000))])⟩,
        ⟨none, (some 42), .inl (.mv (.s 41))⟩,
        ⟨(some (42, true)), (some 43), .inl (.fa (.s 1) 2)⟩,
        ⟨(some (42, true)), (some 44), .inl (.ld false 1 (.s 43))⟩,
        ⟨(some (42, true)), (some 45), .inl (.bin .eql (.s 44) (.c (.int .i64 0)))⟩,
        ⟨none, (some 46), .inl (.pick (.s 42) (.s 45) (.c (.bool false)))⟩,
        ⟨none, (some 3), .inl (.mv (.s 46))⟩])
     (.seq (.region [⟨none, (some 48), .inl (.bin .eql (.s 5) (.c (.int .i64 6)))⟩,
        ⟨none, (some 47), .inl (.mv (.s 48))⟩])
      (.cond (.s 47) (.region [⟨none, (some 49), .inl (.fa (.s 1) 1)⟩,
         ⟨none, (some 50), .inl (.ld false 1 (.s 49))⟩,
         ⟨none, (some 51), .inl (.fa (.s 1) 2)⟩,
         ⟨none, (some 52), .inl (.ld false 1 (.s 51))⟩,
         ⟨none, (some 53), .inr (.fn 64 [(.s 50), (.c (.int .i64 0)), (.s 52)])⟩,
         ⟨none, (some 54), .inl (.mv (.s 53))⟩,
         ⟨(some (54, true)), (some 55), .inl (.fa (.s 1) 2)⟩,
         ⟨(some (54, true)), (some 56), .inl (.ld false 1 (.s 55))⟩,
         ⟨(some (54, true)), (some 57), .inr (.fn 64 [(.s 56), (.c (.int .i64 1)), (.c (.int .i64 1000))])⟩,
         ⟨none, (some 58), .inl (.pick (.s 54) (.s 57) (.c (.bool false)))⟩,
         ⟨none, (some 3), .inl (.mv (.s 58))⟩])
      (.skip)))))))))))))
  (.seq (.seq (.region [⟨none, (some 59), .inl (.mv (.s 3))⟩])
  (.cond (.s 59) (.seq (.region [⟨none, (some 2), .inl (.mv (.c (.int .i64 0)))⟩])
   (.ret))
  (.skip)))
  (.seq (.region [⟨none, (some 2), .inl (.mv (.c (.int .i64 10)))⟩])
  (.ret)))))
def k23l0 : Cd :=
  .seq (.region [⟨none, (some 5), .inl (.mv (.s 34))⟩])
  (.region [⟨none, (some 6), .inl (.alloc 23 [(.int .i64 0), (.int .i64 0), (.int .i64 0)])⟩,
    ⟨none, none, .inl (.st 3 (.s 6) (.s 35))⟩])
def k23l1 : Cd :=
  .block 1 (.seq (.region [⟨none, (some 36), .inl (.fa (.s 6) 0)⟩,
    ⟨none, (some 37), .inl (.ld false 1 (.s 36))⟩,
    ⟨none, (some 38), .inl (.bin .eql (.s 37) (.c (.int .i64 1)))⟩,
    ⟨none, (some 39), .inl (.mv (.s 38))⟩,
    ⟨(some (39, true)), (some 40), .inl (.fa (.s 1) 2)⟩,
    ⟨(some (39, true)), (some 41), .inl (.ld false 1 (.s 40))⟩,
    ⟨(some (39, true)), (some 42), .inl (.fa (.s 6) 1)⟩,
    ⟨(some (39, true)), (some 43), .inl (.ld false 1 (.s 42))⟩,
    ⟨(some (39, true)), (some 44), .inr (.fn 25 [(.s 41), (.s 43)])⟩,
    ⟨(some (39, true)), (some 45), .inl (.mv (.s 5))⟩,
    ⟨(some (39, true)), (some 46), .inl (.bin .leq (.s 44) (.s 45))⟩,
    ⟨none, (some 47), .inl (.pick (.s 39) (.s 46) (.c (.bool false)))⟩])
  (.cond (.s 47) (.seq (.region [⟨none, none, .inl (.st 1 (.s 2) (.c (.int .i64 15)))⟩])
   (.ret))
  (.skip)))
/-- gyttja/sheet.Check -/
def k23 : Cd :=
  .seq (.region [⟨none, (some 1), .inl (.box 26 4 (.s 0))⟩,
    ⟨none, (some 2), .inl (.alloc 34 [(.int .i64 0)])⟩])
  (.seq (.seq (.region [⟨none, (some 7), .inl (.fa (.s 1) 0)⟩,
    ⟨none, (some 8), .inl (.ld false 1 (.s 7))⟩,
    ⟨none, (some 9), .inr (.fn 63 [(.s 8), (.c (.int .i64 1)), (.c (.int .i64 99999))])⟩,
    ⟨none, (some 10), .inl (.not (.s 9))⟩,
    ⟨none, (some 11), .inl (.mv (.s 10))⟩,
    ⟨(some (11, false)), (some 12), .inl (.fa (.s 1) 1)⟩,
    ⟨(some (11, false)), (some 13), .inl (.ld false 1 (.s 12))⟩,
    ⟨(some (11, false)), (some 14), .inr (.fn 63 [(.s 13), (.c (.int .i64 1)), (.c (.int .i64 99))])⟩,
    ⟨(some (11, false)), (some 15), .inl (.not (.s 14))⟩,
    ⟨none, (some 16), .inl (.pick (.s 11) (.c (.bool true)) (.s 15))⟩,
    ⟨none, (some 17), .inl (.mv (.s 16))⟩,
    ⟨(some (17, false)), (some 18), .inl (.fa (.s 1) 2)⟩,
    ⟨(some (17, false)), (some 19), .inl (.ld false 1 (.s 18))⟩,
    ⟨(some (17, false)), (some 20), .inr (.fn 63 [(.s 19), (.c (.int .i64 0)), (.c (.int .i64 31))])⟩,
    ⟨(some (17, false)), (some 21), .inl (.not (.s 20))⟩,
    ⟨none, (some 22), .inl (.pick (.s 17) (.c (.bool true)) (.s 21))⟩])
  (.cond (.s 22) (.seq (.region [⟨none, none, .inl (.st 1 (.s 2) (.c (.int .i64 11)))⟩])
   (.ret))
  (.skip)))
  (.seq (.seq (.region [⟨none, (some 24), .inl (.fa (.s 1) 3)⟩,
    ⟨none, (some 25), .inl (.ld false 1 (.s 24))⟩,
    ⟨none, (some 26), .inr (.fn 67 [(.s 25)])⟩,
    ⟨none, (some 23), .inl (.mv (.s 26))⟩,
    ⟨none, (some 27), .inl (.ex (.s 23) 0)⟩,
    ⟨none, (some 28), .inl (.ex (.s 23) 1)⟩,
    ⟨none, (some 3), .inl (.mv (.s 27))⟩,
    ⟨none, (some 4), .inl (.mv (.s 28))⟩])
  (.seq (.region [⟨none, (some 29), .inl (.mv (.s 4))⟩,
    ⟨none, (some 30), .inl (.bin .neq (.s 29) (.c (.int .i64 0)))⟩])
  (.cond (.s 30) (.seq (.region [⟨none, (some 31), .inl (.mv (.s 4))⟩,
     ⟨none, none, .inl (.st 1 (.s 2) (.s 31))⟩])
   (.ret))
  (.skip))))
  (.seq (.seq (.region [⟨none, (some 32), .inl (.ld true 4 (.s 1))⟩,
    ⟨none, (some 33), .inr (.fn 62 [(.s 32)])⟩])
  (.block 0 (.rangeF (.s 33) [34, 35] k23l0 k23l1)))
  (.seq (.region [⟨none, none, .inl (.st 1 (.s 2) (.c (.int .i64 0)))⟩])
  (.ret)))))
def k24l0 : Cd :=
  .seq (.seq (.region [⟨none, (some 34), .inl (.mv (.s 7))⟩,
    ⟨none, (some 35), .inl (.fa (.s 1) 3)⟩,
    ⟨none, (some 36), .inl (.ld false 1 (.s 35))⟩,
    ⟨none, (some 37), .inl (.len (.s 36))⟩,
    ⟨none, (some 38), .inl (.bin .lss (.s 34) (.s 37))⟩])
  (.cond (.s 38) (.skip)
  (.exit 0)))
  (.seq (.block 1 (.seq (.region [⟨none, (some 41), .inl (.fa (.s 1) 3)⟩,
    ⟨none, (some 42), .inl (.ld false 1 (.s 41))⟩,
    ⟨none, (some 43), .inl (.mv (.s 7))⟩,
    ⟨none, (some 44), .inl (.ias 3 (.s 42) (.s 43))⟩,
    ⟨none, (some 45), .inl (.fa (.s 44) 0)⟩,
    ⟨none, (some 46), .inl (.ld false 1 (.s 45))⟩,
    ⟨none, (some 47), .inl (.bin .eql (.s 46) (.c (.int .i64 1)))⟩])
  (.cond (.s 47) (.seq (.seq (.region [⟨none, (some 48), .inl (.fa (.s 1) 3)⟩,
     ⟨none, (some 49), .inl (.ld false 1 (.s 48))⟩,
     ⟨none, (some 50), .inl (.mv (.s 7))⟩,
     ⟨none, (some 51), .inl (.ias 3 (.s 49) (.s 50))⟩,
     ⟨none, (some 52), .inl (.fa (.s 51) 1)⟩,
     ⟨none, (some 53), .inl (.ld false 1 (.s 52))⟩,
     ⟨none, (some 54), .inl (.mv (.s 6))⟩,
     ⟨none, (some 55), .inl (.bin .leq (.s 53) (.s 54))⟩])
   (.cond (.s 55) (.seq (.region [⟨none, (some 2), .inl (.mv (.c (.int .i64 15)))⟩])
    (.ret))
   (.skip)))
   (.region [⟨none, (some 56), .inl (.fa (.s 1) 3)⟩,
     ⟨none, (some 57), .inl (.ld false 1 (.s 56))⟩,
     ⟨none, (some 58), .inl (.mv (.s 7))⟩,
     ⟨none, (some 59), .inl (.ias 3 (.s 57) (.s 58))⟩,
     ⟨none, (some 60), .inl (.fa (.s 59) 1)⟩,
     ⟨none, (some 61), .inl (.ld false 1 (.s 60))⟩,
     ⟨none, (some 6), .inl (.mv (.s 61))⟩]))
  (.skip))))
  (.region [⟨none, (some 39), .inl (.mv (.s 7))⟩,
    ⟨none, (some 40), .inl (.bin .add (.s 39) (.c (.int .i64 1)))⟩,
    ⟨none, (some 7), .inl (.mv (.s 40))⟩]))
/-- gyttja/gyttjaref01.Check -/
def k24 : Cd :=
  .seq (.region [⟨none, (some 1), .inl (.box 26 4 (.s 0))⟩,
    ⟨none, (some 2), .inl (.mv (.c (.int .i64 0)))⟩])
  (.seq (.seq (.region [⟨none, (some 8), .inl (.fa (.s 1) 0)⟩,
    ⟨none, (some 9), .inl (.ld false 1 (.s 8))⟩,
    ⟨none, (some 10), .inr (.fn 64 [(.s 9), (.c (.int .i64 1)), (.c (.int .i64 99999))])⟩,
    ⟨none, (some 11), .inl (.not (.s 10))⟩,
    ⟨none, (some 12), .inl (.mv (.s 11))⟩,
    ⟨(some (12, false)), (some 13), .inl (.fa (.s 1) 1)⟩,
    ⟨(some (12, false)), (some 14), .inl (.ld false 1 (.s 13))⟩,
    ⟨(some (12, false)), (some 15), .inr (.fn 64 [(.s 14), (.c (.int .i64 1)), (.c (.int .i64 99))])⟩,
    ⟨(some (12, false)), (some 16), .inl (.not (.s 15))⟩,
    ⟨none, (some 17), .inl (.pick (.s 12) (.c (.bool true)) (.s 16))⟩,
    ⟨none, (some 18), .inl (.mv (.s 17))⟩,
    ⟨(some (18, false)), (some 19), .inl (.fa (.s 1) 2)⟩,
    ⟨(some (18, false)), (some 20), .inl (.ld false 1 (.s 19))⟩,
    ⟨(some (18, false)), (some 21), .inr (.fn 64 [(.s 20), (.c (.int .i64 0)), (.c (.int .i64 31))])⟩,
    ⟨(some (18, false)), (some 22), .inl (.not (.s 21))⟩,
    ⟨none, (some 23), .inl (.pick (.s 18) (.c (.bool true)) (.s 22))⟩])
  (.cond (.s 23) (.seq (.region [⟨none, (some 2), .inl (.mv (.c (.int .i64 11)))⟩])
   (.ret))
  (.skip)))
  (.seq (.region [⟨none, (some 25), .inl (.fa (.s 1) 3)⟩,
    ⟨none, (some 26), .inl (.ld false 1 (.s 25))⟩,
    ⟨none, (some 27), .inr (.fn 33 [(.s 26)])⟩,
    ⟨none, (some 24), .inl (.mv (.s 27))⟩,
    ⟨none, (some 28), .inl (.ex (.s 24) 0)⟩,
    ⟨none, (some 29), .inl (.ex (.s 24) 1)⟩,
    ⟨none, (some 30), .inl (.ex (.s 24) 2)⟩,
    ⟨none, (some 3), .inl (.mv (.s 28))⟩,
    ⟨none, (some 4), .inl (.mv (.s 29))⟩,
    ⟨none, (some 5), .inl (.mv (.s 30))⟩])
  (.seq (.seq (.region [⟨none, (some 31), .inl (.mv (.s 5))⟩,
    ⟨none, (some 32), .inl (.bin .neq (.s 31) (.c (.int .i64 0)))⟩])
  (.cond (.s 32) (.seq (.region [⟨none, (some 33), .inl (.mv (.s 5))⟩,
     ⟨none, (some 2), .inl (.mv (.s 33))⟩])
   (.ret))
  (.skip)))
  (.seq (.region [⟨none, (some 6), .inl (.mv (.c (.int .i64 (-1))))⟩])
  (.seq (.seq (.region [⟨none, (some 7), .inl (.mv (.c (.int .i64 0)))⟩])
  (.block 0 (.loop k24l0)))
  (.seq (.region [⟨none, (some 2), .inl (.mv (.c (.int .i64 0)))⟩])
  (.ret)))))))
/-- gyttja/sheet.Mark -/
def k25 : Cd :=
  .seq (.region [⟨none, (some 4), .inl (.mv (.c (.int .i64 0)))⟩])
  (.seq (.seq (.region [⟨none, (some 5), .inl (.mv (.s 0))⟩,
    ⟨none, (some 6), .inr (.fn 63 [(.s 5), (.c (.int .i64 0)), (.c (.int .i64 31))])⟩,
    ⟨none, (some 7), .inl (.not (.s 6))⟩,
    ⟨none, (some 8), .inl (.mv (.s 7))⟩,
    ⟨(some (8, false)), (some 9), .inl (.mv (.s 1))⟩,
    ⟨(some (8, false)), (some 10), .inr (.fn 63 [(.s 9), (.c (.int .i64 0)), (.c (.int .i64 63))])⟩,
    ⟨(some (8, false)), (some 11), .inl (.not (.s 10))⟩,
    ⟨none, (some 12), .inl (.pick (.s 8) (.c (.bool true)) (.s 11))⟩])
  (.cond (.s 12) (.seq (.region [⟨none, (some 4), .inl (.mv (.c (.int .i64 (-1))))⟩])
   (.ret))
  (.skip)))
  (.seq (.region [⟨none, (some 13), .inl (.mv (.s 0))⟩,
    ⟨none, (some 14), .inl (.bin .mul (.c (.int .i64 64)) (.s 13))⟩,
    ⟨none, (some 15), .inl (.mv (.s 1))⟩,
    ⟨none, (some 16), .inl (.bin .add (.s 14) (.s 15))⟩,
    ⟨none, (some 17), .inl (.bin .add (.s 16) (.c (.int .i64 1)))⟩,
    ⟨none, (some 4), .inl (.mv (.s 17))⟩])
  (.ret)))
/-- gyttja/gyttjaref01.Mark -/
def k26 : Cd :=
  .seq (.region [⟨none, (some 4), .inl (.mv (.c (.int .i64 0)))⟩])
  (.seq (.seq (.region [⟨none, (some 5), .inl (.mv (.s 0))⟩,
    ⟨none, (some 6), .inr (.fn 64 [(.s 5), (.c (.int .i64 0)), (.c (.int .i64 31))])⟩,
    ⟨none, (some 7), .inl (.not (.s 6))⟩,
    ⟨none, (some 8), .inl (.mv (.s 7))⟩,
    ⟨(some (8, false)), (some 9), .inl (.mv (.s 1))⟩,
    ⟨(some (8, false)), (some 10), .inr (.fn 64 [(.s 9), (.c (.int .i64 0)), (.c (.int .i64 63))])⟩,
    ⟨(some (8, false)), (some 11), .inl (.not (.s 10))⟩,
    ⟨none, (some 12), .inl (.pick (.s 8) (.c (.bool true)) (.s 11))⟩])
  (.cond (.s 12) (.seq (.region [⟨none, (some 4), .inl (.mv (.c (.int .i64 (-1))))⟩])
   (.ret))
  (.skip)))
  (.seq (.region [⟨none, (some 13), .inl (.mv (.s 0))⟩,
    ⟨none, (some 14), .inl (.bin .mul (.c (.int .i64 64)) (.s 13))⟩,
    ⟨none, (some 15), .inl (.mv (.s 1))⟩,
    ⟨none, (some 16), .inl (.bin .add (.s 14) (.s 15))⟩,
    ⟨none, (some 17), .inl (.bin .add (.s 16) (.c (.int .i64 1)))⟩,
    ⟨none, (some 4), .inl (.mv (.s 17))⟩])
  (.ret)))
/-- gyttja/sheet.Parse -/
def k27 : Cd :=
  .seq (.region [⟨none, (some 2), .inl (.alloc 26 [(.int .i64 0), (.int .i64 0), (.int .i64 0), (.slice none 0 0)])⟩,
    ⟨none, (some 3), .inl (.alloc 3 [(.int .i64 0)])⟩,
    ⟨none, (some 4), .inl (.alloc 34 [(.int .i64 0)])⟩])
  (.seq (.region [⟨none, (some 5), .inl (.mkf (.func 68) [] [(.s 2), (.s 3), (.s 4)])⟩,
    ⟨none, none, .inr (.dfr (.s 5) [])⟩])
  (.seq (.seq (.region [⟨none, (some 6), .inl (.mv (.s 0))⟩,
    ⟨none, (some 7), .inl (.lens (.s 6))⟩,
    ⟨none, (some 8), .inl (.bin .gtr (.s 7) (.c (.int .i64 8000)))⟩])
  (.cond (.s 8) (.seq (.region [⟨none, (some 9), .inl (.bld [(.int .i64 0), (.int .i64 0), (.int .i64 0), (.slice none 0 0)] [])⟩,
     ⟨none, none, .inl (.st 4 (.s 2) (.s 9))⟩,
     ⟨none, none, .inl (.st 1 (.s 3) (.c (.int .i64 0)))⟩,
     ⟨none, none, .inl (.st 1 (.s 4) (.c (.int .i64 2)))⟩])
   (.ret))
  (.skip)))
  (.seq (.region [⟨none, (some 10), .inl (.mv (.s 0))⟩,
    ⟨none, (some 11), .inr (.fn 69 [(.s 10)])⟩,
    ⟨none, none, .inl (.st 4 (.s 2) (.s 11))⟩])
  (.seq (.seq (.region [⟨none, (some 12), .inl (.ld true 4 (.s 2))⟩,
    ⟨none, (some 13), .inr (.fn 23 [(.s 12)])⟩,
    ⟨none, none, .inl (.st 1 (.s 4) (.s 13))⟩])
  (.seq (.region [⟨none, (some 14), .inl (.ld false 1 (.s 4))⟩,
    ⟨none, (some 15), .inl (.bin .neq (.s 14) (.c (.int .i64 0)))⟩])
  (.cond (.s 15) (.seq (.draw [⟨⟨none, (some 16), .inl (.bld [(.int .i64 0), (.int .i64 0), (.int .i64 0), (.slice none 0 0)] [])⟩, (some []), [], 0, false⟩,
     ⟨⟨none, (some 17), .inl (.ld false 1 (.s 4))⟩, (some []), [.at 2, .at 3], 0, false⟩,
     ⟨⟨none, none, .inl (.st 4 (.s 2) (.s 16))⟩, (some [.at 2]), [], 1, false⟩,
     ⟨⟨none, none, .inl (.st 1 (.s 3) (.c (.int .i64 0)))⟩, (some [.at 3]), [], 5, false⟩,
     ⟨⟨none, none, .inl (.st 1 (.s 4) (.s 17))⟩, (some [.at 4]), [], 15, false⟩])
   (.ret))
  (.skip))))
  (.seq (.region [⟨none, (some 18), .inl (.ld true 4 (.s 2))⟩,
    ⟨none, none, .inl (.st 4 (.s 2) (.s 18))⟩,
    ⟨none, none, .inl (.st 1 (.s 3) (.c (.int .i64 0)))⟩,
    ⟨none, none, .inl (.st 1 (.s 4) (.c (.int .i64 0)))⟩])
  (.ret))))))
def k28l0 : Cd :=
  .seq (.seq (.region [⟨none, (some 19), .inl (.mv (.s 8))⟩,
    ⟨none, (some 20), .inl (.mv (.s 5))⟩,
    ⟨none, (some 21), .inl (.len (.s 20))⟩,
    ⟨none, (some 22), .inl (.bin .lss (.s 19) (.s 21))⟩])
  (.cond (.s 22) (.skip)
  (.exit 0)))
  (.seq (.block 1 (.seq (.region [⟨none, (some 25), .inl (.mv (.s 5))⟩,
    ⟨none, (some 26), .inl (.mv (.s 8))⟩,
    ⟨none, (some 27), .inl (.ias 1 (.s 25) (.s 26))⟩,
    ⟨none, (some 28), .inl (.ld false 1 (.s 27))⟩,
    ⟨none, (some 29), .inr (.fn 71 [(.s 28)])⟩,
    ⟨none, (some 9), .inl (.mv (.s 29))⟩])
  (.seq (.seq (.region [⟨none, (some 30), .inl (.mv (.s 9))⟩,
    ⟨none, (some 31), .inl (.len (.s 30))⟩,
    ⟨none, (some 32), .inl (.bin .eql (.s 31) (.c (.int .i64 0)))⟩,
    ⟨none, (some 33), .inl (.mv (.s 32))⟩,
    ⟨(some (33, false)), (some 34), .inl (.mv (.s 5))⟩,
    ⟨(some (33, false)), (some 35), .inl (.mv (.s 8))⟩,
    ⟨(some (33, false)), (some 36), .inl (.ias 1 (.s 34) (.s 35))⟩,
    ⟨(some (33, false)), (some 37), .inl (.ld false 1 (.s 36))⟩,
    ⟨(some (33, false)), (some 38), .inl (.ixs (.s 37) (.c (.int .i64 0)))⟩,
    ⟨(some (33, false)), (some 39), .inl (.bin .eql (.s 38) (.c (.int .u8 35)))⟩,
    ⟨none, (some 40), .inl (.pick (.s 33) (.c (.bool true)) (.s 39))⟩])
  (.cond (.s 40) (.exit 1)
  (.skip)))
  (.seq (.region [⟨none, (some 10), .inl (.mv (.c (.bool false)))⟩])
  (.seq (.seq (.region [⟨none, (some 41), .inl (.mv (.s 7))⟩])
  (.cond (.s 41) (.seq (.region [⟨none, (some 11), .inl (.alloc 23 [(.int .i64 0), (.int .i64 0), (.int .i64 0)])⟩])
   (.seq (.region [⟨none, (some 43), .inl (.mv (.s 9))⟩,
     ⟨none, (some 44), .inr (.fn 72 [(.s 43)])⟩,
     ⟨none, (some 42), .inl (.mv (.s 44))⟩,
     ⟨none, (some 45), .inl (.ex (.s 42) 0)⟩,
     ⟨none, (some 46), .inl (.ex (.s 42) 1)⟩,
     ⟨none, none, .inl (.st 3 (.s 11) (.s 45))⟩,
     ⟨none, (some 10), .inl (.mv (.s 46))⟩])
   (.region [⟨none, (some 47), .inl (.fa (.s 6) 3)⟩,
     ⟨none, (some 48), .inl (.ld false 1 (.s 47))⟩,
     ⟨none, (some 49), .inl (.ld true 3 (.s 11))⟩,
     ⟨none, (some 50), .inl (.bs 23 3 1 [(.int .i64 0), (.int .i64 0), (.int .i64 0)] [(0, (.s 49))])⟩,
     ⟨none, (some 51), .inl (.app 23 3 24 (.s 48) (.s 50))⟩,
     ⟨none, (some 52), .inl (.fa (.s 6) 3)⟩,
     ⟨none, none, .inl (.st 1 (.s 52) (.s 51))⟩])))
  (.seq (.region [⟨none, (some 54), .inl (.mv (.s 9))⟩,
     ⟨none, (some 55), .inr (.fn 73 [(.s 54)])⟩,
     ⟨none, (some 53), .inl (.mv (.s 55))⟩,
     ⟨none, (some 56), .inl (.ex (.s 53) 0)⟩,
     ⟨none, (some 57), .inl (.ex (.s 53) 1)⟩,
     ⟨none, none, .inl (.st 4 (.s 6) (.s 56))⟩,
     ⟨none, (some 10), .inl (.mv (.s 57))⟩])
   (.region [⟨none, (some 7), .inl (.mv (.c (.bool true)))⟩]))))
  (.seq (.region [⟨none, (some 58), .inl (.mv (.s 10))⟩,
    ⟨none, (some 59), .inl (.not (.s 58))⟩])
  (.cond (.s 59) (.seq (.region [⟨none, (some 60), .inl (.bld [(.int .i64 0), (.int .i64 0), (.int .i64 0), (.slice none 0 0)] [])⟩,
     ⟨none, (some 61), .inl (.mv (.s 8))⟩,
     ⟨none, (some 62), .inl (.bin .add (.s 61) (.c (.int .i64 1)))⟩,
     ⟨none, none, .inl (.st 4 (.s 2) (.s 60))⟩,
     ⟨none, (some 3), .inl (.mv (.s 62))⟩,
     ⟨none, (some 4), .inl (.mv (.c (.int .i64 12)))⟩])
   (.ret))
  (.skip))))))))
  (.region [⟨none, (some 23), .inl (.mv (.s 8))⟩,
    ⟨none, (some 24), .inl (.bin .add (.s 23) (.c (.int .i64 1)))⟩,
    ⟨none, (some 8), .inl (.mv (.s 24))⟩]))
/-- gyttja/gyttjaref01.Parse -/
def k28 : Cd :=
  .seq (.region [⟨none, (some 2), .inl (.alloc 26 [(.int .i64 0), (.int .i64 0), (.int .i64 0), (.slice none 0 0)])⟩,
    ⟨none, (some 3), .inl (.mv (.c (.int .i64 0)))⟩,
    ⟨none, (some 4), .inl (.mv (.c (.int .i64 0)))⟩])
  (.seq (.seq (.region [⟨none, (some 13), .inl (.mv (.s 0))⟩,
    ⟨none, (some 14), .inl (.lens (.s 13))⟩,
    ⟨none, (some 15), .inl (.bin .gtr (.s 14) (.c (.int .i64 8000)))⟩])
  (.cond (.s 15) (.seq (.region [⟨none, (some 16), .inl (.bld [(.int .i64 0), (.int .i64 0), (.int .i64 0), (.slice none 0 0)] [])⟩,
     ⟨none, none, .inl (.st 4 (.s 2) (.s 16))⟩,
     ⟨none, (some 3), .inl (.mv (.c (.int .i64 0)))⟩,
     ⟨none, (some 4), .inl (.mv (.c (.int .i64 2)))⟩])
   (.ret))
  (.skip)))
  (.seq (.region [⟨none, (some 17), .inl (.mv (.s 0))⟩,
    ⟨none, (some 18), .inr (.fn 70 [(.s 17)])⟩,
    ⟨none, (some 5), .inl (.mv (.s 18))⟩])
  (.seq (.region [⟨none, (some 6), .inl (.alloc 26 [(.int .i64 0), (.int .i64 0), (.int .i64 0), (.slice none 0 0)])⟩])
  (.seq (.region [⟨none, (some 7), .inl (.mv (.c (.bool false)))⟩])
  (.seq (.seq (.region [⟨none, (some 8), .inl (.mv (.c (.int .i64 0)))⟩])
  (.block 0 (.loop k28l0)))
  (.seq (.seq (.region [⟨none, (some 63), .inl (.mv (.s 7))⟩,
    ⟨none, (some 64), .inl (.not (.s 63))⟩])
  (.cond (.s 64) (.seq (.region [⟨none, (some 65), .inl (.bld [(.int .i64 0), (.int .i64 0), (.int .i64 0), (.slice none 0 0)] [])⟩,
     ⟨none, (some 66), .inl (.mv (.s 5))⟩,
     ⟨none, (some 67), .inl (.len (.s 66))⟩,
     ⟨none, (some 68), .inl (.bin .add (.s 67) (.c (.int .i64 1)))⟩,
     ⟨none, none, .inl (.st 4 (.s 2) (.s 65))⟩,
     ⟨none, (some 3), .inl (.mv (.s 68))⟩,
     ⟨none, (some 4), .inl (.mv (.c (.int .i64 12)))⟩])
   (.ret))
  (.skip)))
  (.seq (.region [⟨none, (some 69), .inl (.ld true 4 (.s 6))⟩,
    ⟨none, (some 70), .inr (.fn 24 [(.s 69)])⟩,
    ⟨none, (some 12), .inl (.mv (.s 70))⟩])
  (.seq (.seq (.region [⟨none, (some 71), .inl (.mv (.s 12))⟩,
    ⟨none, (some 72), .inl (.bin .neq (.s 71) (.c (.int .i64 0)))⟩])
  (.cond (.s 72) (.seq (.region [⟨none, (some 73), .inl (.bld [(.int .i64 0), (.int .i64 0), (.int .i64 0), (.slice none 0 0)] [])⟩,
     ⟨none, (some 74), .inl (.mv (.s 12))⟩,
     ⟨none, none, .inl (.st 4 (.s 2) (.s 73))⟩,
     ⟨none, (some 3), .inl (.mv (.c (.int .i64 0)))⟩,
     ⟨none, (some 4), .inl (.mv (.s 74))⟩])
   (.ret))
  (.skip)))
  (.seq (.region [⟨none, (some 75), .inl (.ld true 4 (.s 6))⟩,
    ⟨none, none, .inl (.st 4 (.s 2) (.s 75))⟩,
    ⟨none, (some 3), .inl (.mv (.c (.int .i64 0)))⟩,
    ⟨none, (some 4), .inl (.mv (.c (.int .i64 0)))⟩])
  (.ret))))))))))
/-- gyttja/gyttjaref01.Same -/
def k29 : Cd :=
  .seq (.region [⟨none, (some 2), .inl (.box 26 4 (.s 0))⟩,
    ⟨none, (some 3), .inl (.box 26 4 (.s 1))⟩,
    ⟨none, (some 4), .inl (.mv (.c (.bool false)))⟩])
  (.seq (.region [⟨none, (some 6), .inl (.fa (.s 2) 3)⟩,
    ⟨none, (some 7), .inl (.ld false 1 (.s 6))⟩,
    ⟨none, (some 8), .inl (.fa (.s 3) 3)⟩,
    ⟨none, (some 9), .inl (.ld false 1 (.s 8))⟩,
    ⟨none, (some 10), .inr (.fn 47 [(.s 7), (.s 9)])⟩,
    ⟨none, (some 5), .inl (.mv (.s 10))⟩])
  (.seq (.region [⟨none, (some 11), .inl (.mv (.s 5))⟩,
    ⟨none, (some 12), .inl (.mv (.s 11))⟩,
    ⟨(some (12, true)), (some 13), .inl (.fa (.s 2) 0)⟩,
    ⟨(some (12, true)), (some 14), .inl (.ld false 1 (.s 13))⟩,
    ⟨(some (12, true)), (some 15), .inl (.fa (.s 3) 0)⟩,
    ⟨(some (12, true)), (some 16), .inl (.ld false 1 (.s 15))⟩,
    ⟨(some (12, true)), (some 17), .inl (.bin .eql (.s 14) (.s 16))⟩,
    ⟨none, (some 18), .inl (.pick (.s 12) (.s 17) (.c (.bool false)))⟩,
    ⟨none, (some 19), .inl (.mv (.s 18))⟩,
    ⟨(some (19, true)), (some 20), .inl (.fa (.s 2) 1)⟩,
    ⟨(some (19, true)), (some 21), .inl (.ld false 1 (.s 20))⟩,
    ⟨(some (19, true)), (some 22), .inl (.fa (.s 3) 1)⟩,
    ⟨(some (19, true)), (some 23), .inl (.ld false 1 (.s 22))⟩,
    ⟨(some (19, true)), (some 24), .inl (.bin .eql (.s 21) (.s 23))⟩,
    ⟨none, (some 25), .inl (.pick (.s 19) (.s 24) (.c (.bool false)))⟩,
    ⟨none, (some 26), .inl (.mv (.s 25))⟩,
    ⟨(some (26, true)), (some 27), .inl (.fa (.s 2) 2)⟩,
    ⟨(some (26, true)), (some 28), .inl (.ld false 1 (.s 27))⟩,
    ⟨(some (26, true)), (some 29), .inl (.fa (.s 3) 2)⟩,
    ⟨(some (26, true)), (some 30), .inl (.ld false 1 (.s 29))⟩,
    ⟨(some (26, true)), (some 31), .inl (.bin .eql (.s 28) (.s 30))⟩,
    ⟨none, (some 32), .inl (.pick (.s 26) (.s 31) (.c (.bool false)))⟩,
    ⟨none, (some 4), .inl (.mv (.s 32))⟩])
  (.ret)))
def k32l0 : Cd :=
  .seq (.region [⟨none, (some 19), .inl (.bin .lss (.s 18) (.s 17))⟩])
  (.seq (.cond (.s 19) (.skip)
  (.exit 0))
  (.seq (.block 1 (.seq (.region [⟨none, (some 20), .inl (.ias 7 (.s 16) (.s 18))⟩,
    ⟨none, (some 21), .inl (.ld true 7 (.s 20))⟩,
    ⟨none, (some 7), .inl (.alloc 82 [(.bool false), (.int .i64 0), (.int .i64 0), (.slice none 0 0), (.int .i64 0), (.bool false), (.bool false)])⟩,
    ⟨none, none, .inl (.st 7 (.s 7) (.s 21))⟩])
  (.seq (.region [⟨none, (some 22), .inl (.mv (.s 2))⟩,
    ⟨none, (some 23), .inl (.fa (.s 7) 1)⟩,
    ⟨none, (some 24), .inl (.ld false 1 (.s 23))⟩,
    ⟨none, (some 25), .inl (.bin .add (.s 22) (.s 24))⟩,
    ⟨none, (some 2), .inl (.mv (.s 25))⟩])
  (.region [⟨none, (some 26), .inl (.mv (.s 3))⟩,
    ⟨none, (some 27), .inl (.fa (.s 7) 2)⟩,
    ⟨none, (some 28), .inl (.ld false 1 (.s 27))⟩,
    ⟨none, (some 29), .inl (.bin .add (.s 26) (.s 28))⟩,
    ⟨none, (some 3), .inl (.mv (.s 29))⟩]))))
  (.region [⟨none, (some 30), .inl (.bin .add (.s 18) (.c (.int .i64 1)))⟩,
    ⟨none, (some 18), .inl (.mv (.s 30))⟩])))
/-- gyttja/sheet.Years -/
def k32 : Cd :=
  .seq (.region [⟨none, (some 2), .inl (.mv (.c (.int .i64 0)))⟩,
    ⟨none, (some 3), .inl (.mv (.c (.int .i64 0)))⟩,
    ⟨none, (some 4), .inl (.mv (.c (.int .i64 0)))⟩])
  (.seq (.region [⟨none, (some 9), .inl (.mv (.s 0))⟩,
    ⟨none, (some 10), .inr (.fn 67 [(.s 9)])⟩,
    ⟨none, (some 8), .inl (.mv (.s 10))⟩,
    ⟨none, (some 11), .inl (.ex (.s 8) 0)⟩,
    ⟨none, (some 12), .inl (.ex (.s 8) 1)⟩,
    ⟨none, (some 5), .inl (.mv (.s 11))⟩,
    ⟨none, (some 4), .inl (.mv (.s 12))⟩])
  (.seq (.seq (.region [⟨none, (some 13), .inl (.mv (.s 4))⟩,
    ⟨none, (some 14), .inl (.bin .neq (.s 13) (.c (.int .i64 0)))⟩])
  (.cond (.s 14) (.seq (.region [⟨none, (some 15), .inl (.mv (.s 4))⟩,
     ⟨none, (some 2), .inl (.mv (.c (.int .i64 0)))⟩,
     ⟨none, (some 3), .inl (.mv (.c (.int .i64 0)))⟩,
     ⟨none, (some 4), .inl (.mv (.s 15))⟩])
   (.ret))
  (.skip)))
  (.seq (.seq (.region [⟨none, (some 16), .inl (.mv (.s 5))⟩,
    ⟨none, (some 17), .inl (.len (.s 16))⟩,
    ⟨none, (some 18), .inl (.mv (.c (.int .i64 0)))⟩])
  (.block 0 (.loop k32l0)))
  (.seq (.region [⟨none, (some 31), .inl (.mv (.s 2))⟩,
    ⟨none, (some 32), .inl (.mv (.s 3))⟩,
    ⟨none, (some 2), .inl (.mv (.s 31))⟩,
    ⟨none, (some 3), .inl (.mv (.s 32))⟩,
    ⟨none, (some 4), .inl (.mv (.c (.int .i64 0)))⟩])
  (.ret)))))
def k33l0 : Cd :=
  .seq (.seq (.region [⟨none, (some 11), .inl (.mv (.s 7))⟩,
    ⟨none, (some 12), .inl (.mv (.s 0))⟩,
    ⟨none, (some 13), .inl (.len (.s 12))⟩,
    ⟨none, (some 14), .inl (.bin .lss (.s 11) (.s 13))⟩])
  (.cond (.s 14) (.skip)
  (.exit 0)))
  (.seq (.block 1 (.seq (.seq (.region [⟨none, (some 17), .inl (.mv (.s 0))⟩,
    ⟨none, (some 18), .inl (.mv (.s 7))⟩,
    ⟨none, (some 19), .inl (.ias 3 (.s 17) (.s 18))⟩,
    ⟨none, (some 20), .inl (.ld true 3 (.s 19))⟩,
    ⟨none, (some 21), .inr (.fn 22 [(.s 20)])⟩,
    ⟨none, (some 22), .inl (.bin .neq (.s 21) (.c (.int .i64 0)))⟩])
  (.cond (.s 22) (.seq (.region [⟨none, (some 2), .inl (.mv (.c (.int .i64 0)))⟩,
     ⟨none, (some 3), .inl (.mv (.c (.int .i64 0)))⟩,
     ⟨none, (some 4), .inl (.mv (.c (.int .i64 10)))⟩])
   (.ret))
  (.skip)))
  (.seq (.region [⟨none, (some 23), .inl (.mv (.s 5))⟩,
    ⟨none, (some 24), .inl (.mv (.s 0))⟩,
    ⟨none, (some 25), .inl (.mv (.s 7))⟩,
    ⟨none, (some 26), .inl (.ias 3 (.s 24) (.s 25))⟩,
    ⟨none, (some 27), .inl (.ld true 3 (.s 26))⟩,
    ⟨none, (some 28), .inr (.fn 79 [(.s 27)])⟩,
    ⟨none, (some 29), .inl (.bin .add (.s 23) (.s 28))⟩,
    ⟨none, (some 5), .inl (.mv (.s 29))⟩])
  (.region [⟨none, (some 30), .inl (.mv (.s 6))⟩,
    ⟨none, (some 31), .inl (.mv (.s 0))⟩,
    ⟨none, (some 32), .inl (.mv (.s 7))⟩,
    ⟨none, (some 33), .inl (.ias 3 (.s 31) (.s 32))⟩,
    ⟨none, (some 34), .inl (.ld true 3 (.s 33))⟩,
    ⟨none, (some 35), .inr (.fn 80 [(.s 34)])⟩,
    ⟨none, (some 36), .inl (.bin .add (.s 30) (.s 35))⟩,
    ⟨none, (some 6), .inl (.mv (.s 36))⟩]))))
  (.region [⟨none, (some 15), .inl (.mv (.s 7))⟩,
    ⟨none, (some 16), .inl (.bin .add (.s 15) (.c (.int .i64 1)))⟩,
    ⟨none, (some 7), .inl (.mv (.s 16))⟩]))
/-- gyttja/gyttjaref01.Years -/
def k33 : Cd :=
  .seq (.region [⟨none, (some 2), .inl (.mv (.c (.int .i64 0)))⟩,
    ⟨none, (some 3), .inl (.mv (.c (.int .i64 0)))⟩,
    ⟨none, (some 4), .inl (.mv (.c (.int .i64 0)))⟩])
  (.seq (.seq (.region [⟨none, (some 8), .inl (.mv (.s 0))⟩,
    ⟨none, (some 9), .inl (.len (.s 8))⟩,
    ⟨none, (some 10), .inl (.bin .gtr (.s 9) (.c (.int .i64 400)))⟩])
  (.cond (.s 10) (.seq (.region [⟨none, (some 2), .inl (.mv (.c (.int .i64 0)))⟩,
     ⟨none, (some 3), .inl (.mv (.c (.int .i64 0)))⟩,
     ⟨none, (some 4), .inl (.mv (.c (.int .i64 2)))⟩])
   (.ret))
  (.skip)))
  (.seq (.region [⟨none, (some 5), .inl (.mv (.c (.int .i64 0)))⟩])
  (.seq (.region [⟨none, (some 6), .inl (.mv (.c (.int .i64 0)))⟩])
  (.seq (.seq (.region [⟨none, (some 7), .inl (.mv (.c (.int .i64 0)))⟩])
  (.block 0 (.loop k33l0)))
  (.seq (.seq (.region [⟨none, (some 37), .inl (.mv (.s 6))⟩,
    ⟨none, (some 38), .inl (.bin .gtr (.s 37) (.c (.int .i64 100000)))⟩])
  (.cond (.s 38) (.seq (.region [⟨none, (some 2), .inl (.mv (.c (.int .i64 0)))⟩,
     ⟨none, (some 3), .inl (.mv (.c (.int .i64 0)))⟩,
     ⟨none, (some 4), .inl (.mv (.c (.int .i64 2)))⟩])
   (.ret))
  (.skip)))
  (.seq (.region [⟨none, (some 39), .inl (.mv (.s 5))⟩,
    ⟨none, (some 40), .inl (.mv (.s 6))⟩,
    ⟨none, (some 2), .inl (.mv (.s 39))⟩,
    ⟨none, (some 3), .inl (.mv (.s 40))⟩,
    ⟨none, (some 4), .inl (.mv (.c (.int .i64 0)))⟩])
  (.ret)))))))
def k34l0 : Cd :=
  .seq (.region [⟨none, (some 20), .inl (.bin .lss (.s 19) (.s 18))⟩])
  (.seq (.cond (.s 20) (.skip)
  (.exit 0))
  (.seq (.block 1 (.seq (.region [⟨none, (some 21), .inl (.ias 7 (.s 17) (.s 19))⟩,
    ⟨none, (some 22), .inl (.ld true 7 (.s 21))⟩,
    ⟨none, (some 8), .inl (.alloc 82 [(.bool false), (.int .i64 0), (.int .i64 0), (.slice none 0 0), (.int .i64 0), (.bool false), (.bool false)])⟩,
    ⟨none, none, .inl (.st 7 (.s 8) (.s 22))⟩])
  (.draw [⟨⟨none, (some 23), .inl (.mv (.s 6))⟩, (some []), [], 0, false⟩,
    ⟨⟨none, (some 24), .inl (.fa (.s 8) 4)⟩, (some []), [], 0, false⟩,
    ⟨⟨none, (some 25), .inl (.ld false 1 (.s 24))⟩, (some []), [], 2, false⟩,
    ⟨⟨none, (some 26), .inl (.fa (.s 8) 3)⟩, (some []), [], 0, false⟩,
    ⟨⟨none, (some 27), .inl (.ld false 1 (.s 26))⟩, (some []), [], 8, false⟩,
    ⟨⟨none, (some 28), .inr (.fn 82 [(.s 27)])⟩, (some []), [], 24, false⟩,
    ⟨⟨none, (some 29), .inl (.bin .add (.s 25) (.s 28))⟩, (some []), [], 62, false⟩,
    ⟨⟨none, (some 30), .inl (.bin .add (.s 23) (.s 29))⟩, (some []), [], 127, false⟩,
    ⟨⟨none, (some 6), .inl (.mv (.s 30))⟩, (some []), [], 255, false⟩])))
  (.region [⟨none, (some 31), .inl (.bin .add (.s 19) (.c (.int .i64 1)))⟩,
    ⟨none, (some 19), .inl (.mv (.s 31))⟩])))
/-- gyttja/sheet.Length -/
def k34 : Cd :=
  .seq (.region [⟨none, (some 2), .inl (.mv (.c (.int .i64 0)))⟩,
    ⟨none, (some 3), .inl (.mv (.c (.int .i64 0)))⟩])
  (.seq (.region [⟨none, (some 10), .inl (.mv (.s 0))⟩,
    ⟨none, (some 11), .inr (.fn 81 [(.s 10)])⟩,
    ⟨none, (some 9), .inl (.mv (.s 11))⟩,
    ⟨none, (some 12), .inl (.ex (.s 9) 0)⟩,
    ⟨none, (some 13), .inl (.ex (.s 9) 1)⟩,
    ⟨none, (some 4), .inl (.mv (.s 12))⟩,
    ⟨none, (some 5), .inl (.mv (.s 13))⟩])
  (.seq (.seq (.region [⟨none, (some 14), .inl (.mv (.s 5))⟩,
    ⟨none, (some 15), .inl (.bin .neq (.s 14) (.c (.int .i64 0)))⟩])
  (.cond (.s 15) (.seq (.region [⟨none, (some 16), .inl (.mv (.s 5))⟩,
     ⟨none, (some 2), .inl (.mv (.c (.int .i64 0)))⟩,
     ⟨none, (some 3), .inl (.mv (.s 16))⟩])
   (.ret))
  (.skip)))
  (.seq (.region [⟨none, (some 6), .inl (.mv (.c (.int .i64 0)))⟩])
  (.seq (.seq (.region [⟨none, (some 17), .inl (.mv (.s 4))⟩,
    ⟨none, (some 18), .inl (.len (.s 17))⟩,
    ⟨none, (some 19), .inl (.mv (.c (.int .i64 0)))⟩])
  (.block 0 (.loop k34l0)))
  (.seq (.region [⟨none, (some 32), .inl (.mv (.s 6))⟩,
    ⟨none, (some 2), .inl (.mv (.s 32))⟩,
    ⟨none, (some 3), .inl (.mv (.c (.int .i64 0)))⟩])
  (.ret))))))
def k35l0 : Cd :=
  .seq (.seq (.region [⟨none, (some 18), .inl (.mv (.s 8))⟩,
    ⟨none, (some 19), .inl (.mv (.s 0))⟩,
    ⟨none, (some 20), .inl (.len (.s 19))⟩,
    ⟨none, (some 21), .inl (.bin .lss (.s 18) (.s 20))⟩])
  (.cond (.s 21) (.skip)
  (.exit 0)))
  (.seq (.block 1 (.seq (.region [⟨none, (some 24), .inl (.mv (.s 0))⟩,
    ⟨none, (some 25), .inl (.mv (.s 8))⟩,
    ⟨none, (some 26), .inl (.ias 3 (.s 24) (.s 25))⟩,
    ⟨none, (some 27), .inl (.fa (.s 26) 0)⟩,
    ⟨none, (some 28), .inl (.ld false 1 (.s 27))⟩])
  (.block 2 (.seq (.seq (.region [⟨none, (some 30), .inl (.bin .eql (.s 28) (.c (.int .i64 4)))⟩,
    ⟨none, (some 29), .inl (.mv (.s 30))⟩])
  (.cond (.s 29) (.skip)
  (.region [⟨none, (some 31), .inl (.bin .eql (.s 28) (.c (.int .i64 6)))⟩,
     ⟨none, (some 29), .inl (.mv (.s 31))⟩])))
  (.cond (.s 29) (.seq (.region [⟨none, (some 2), .inl (.mv (.c (.int .i64 0)))⟩,
     ⟨none, (some 3), .inl (.mv (.c (.int .i64 13)))⟩])
   (.ret))
  (.seq (.seq (.region [⟨none, (some 33), .inl (.bin .eql (.s 28) (.c (.int .i64 2)))⟩,
     ⟨none, (some 32), .inl (.mv (.s 33))⟩])
   (.cond (.s 32) (.skip)
   (.seq (.region [⟨none, (some 34), .inl (.bin .eql (.s 28) (.c (.int .i64 5)))⟩,
      ⟨none, (some 32), .inl (.mv (.s 34))⟩])
    (.cond (.s 32) (.skip)
    (.region [⟨none, (some 35), .inl (.bin .eql (.s 28) (.c (.int .i64 3)))⟩,
       ⟨none, (some 32), .inl (.mv (.s 35))⟩])))))
   (.cond (.s 32) (.draw [⟨⟨none, (some 36), .inl (.mv (.s 7))⟩, (some []), [], 0, false⟩,
      ⟨⟨none, (some 37), .inl (.mv (.s 0))⟩, (some []), [], 0, false⟩,
      ⟨⟨none, (some 38), .inl (.mv (.s 8))⟩, (some []), [], 0, false⟩,
      ⟨⟨none, (some 39), .inl (.ias 3 (.s 37) (.s 38))⟩, (some []), [], 6, false⟩,
      ⟨⟨none, (some 40), .inl (.fa (.s 39) 1)⟩, (some []), [], 14, false⟩,
      ⟨⟨none, (some 41), .inl (.ld false 1 (.s 40))⟩, (some []), [], 30, false⟩,
      ⟨⟨none, (some 42), .inl (.bin .add (.s 36) (.s 41))⟩, (some []), [], 63, false⟩,
      ⟨⟨none, (some 43), .inl (.mv (.s 0))⟩, (some []), [], 0, false⟩,
      ⟨⟨none, (some 44), .inl (.mv (.s 8))⟩, (some []), [], 0, false⟩,
      ⟨⟨none, (some 45), .inl (.ias 3 (.s 43) (.s 44))⟩, (some []), [], 384, false⟩,
      ⟨⟨none, (some 46), .inl (.fa (.s 45) 2)⟩, (some []), [], 896, false⟩,
      ⟨⟨none, (some 47), .inl (.ld false 1 (.s 46))⟩, (some []), [], 1920, false⟩,
      ⟨⟨none, (some 48), .inl (.bin .add (.s 42) (.s 47))⟩, (some []), [], 4095, false⟩,
      ⟨⟨none, (some 7), .inl (.mv (.s 48))⟩, (some []), [], 8191, false⟩])
   (.skip))))))))
  (.region [⟨none, (some 22), .inl (.mv (.s 8))⟩,
    ⟨none, (some 23), .inl (.bin .add (.s 22) (.c (.int .i64 1)))⟩,
    ⟨none, (some 8), .inl (.mv (.s 23))⟩]))
/-- gyttja/gyttjaref01.Length -/
def k35 : Cd :=
  .seq (.region [⟨none, (some 2), .inl (.mv (.c (.int .i64 0)))⟩,
    ⟨none, (some 3), .inl (.mv (.c (.int .i64 0)))⟩])
  (.seq (.region [⟨none, (some 10), .inl (.mv (.s 0))⟩,
    ⟨none, (some 11), .inr (.fn 33 [(.s 10)])⟩,
    ⟨none, (some 9), .inl (.mv (.s 11))⟩,
    ⟨none, (some 12), .inl (.ex (.s 9) 0)⟩,
    ⟨none, (some 13), .inl (.ex (.s 9) 1)⟩,
    ⟨none, (some 14), .inl (.ex (.s 9) 2)⟩,
    ⟨none, (some 4), .inl (.mv (.s 12))⟩,
    ⟨none, (some 5), .inl (.mv (.s 13))⟩,
    ⟨none, (some 6), .inl (.mv (.s 14))⟩])
  (.seq (.seq (.region [⟨none, (some 15), .inl (.mv (.s 6))⟩,
    ⟨none, (some 16), .inl (.bin .neq (.s 15) (.c (.int .i64 0)))⟩])
  (.cond (.s 16) (.seq (.region [⟨none, (some 17), .inl (.mv (.s 6))⟩,
     ⟨none, (some 2), .inl (.mv (.c (.int .i64 0)))⟩,
     ⟨none, (some 3), .inl (.mv (.s 17))⟩])
   (.ret))
  (.skip)))
  (.seq (.region [⟨none, (some 7), .inl (.mv (.c (.int .i64 0)))⟩])
  (.seq (.seq (.region [⟨none, (some 8), .inl (.mv (.c (.int .i64 0)))⟩])
  (.block 0 (.loop k35l0)))
  (.seq (.region [⟨none, (some 49), .inl (.mv (.s 7))⟩,
    ⟨none, (some 2), .inl (.mv (.s 49))⟩,
    ⟨none, (some 3), .inl (.mv (.c (.int .i64 0)))⟩])
  (.ret))))))
def k36l0 : Cd :=
  .seq (.seq (.region [⟨none, (some 12), .inl (.mv (.s 6))⟩,
    ⟨none, (some 13), .inl (.mv (.s 0))⟩,
    ⟨none, (some 14), .inl (.len (.s 13))⟩,
    ⟨none, (some 15), .inl (.bin .lss (.s 12) (.s 14))⟩,
    ⟨none, (some 16), .inl (.mv (.s 15))⟩,
    ⟨(some (16, true)), (some 17), .inl (.mv (.s 5))⟩,
    ⟨none, (some 18), .inl (.pick (.s 16) (.s 17) (.c (.bool false)))⟩])
  (.cond (.s 18) (.skip)
  (.exit 0)))
  (.seq (.block 1 (.draw [⟨⟨none, (some 21), .inl (.mv (.s 0))⟩, (some []), [], 0, false⟩,
    ⟨⟨none, (some 22), .inl (.mv (.s 6))⟩, (some []), [], 0, false⟩,
    ⟨⟨none, (some 23), .inl (.ias 4 (.s 21) (.s 22))⟩, (some []), [], 3, false⟩,
    ⟨⟨none, (some 24), .inl (.ld true 4 (.s 23))⟩, (some []), [], 7, false⟩,
    ⟨⟨none, (some 25), .inl (.mv (.s 1))⟩, (some []), [], 0, false⟩,
    ⟨⟨none, (some 26), .inl (.mv (.s 6))⟩, (some []), [], 0, false⟩,
    ⟨⟨none, (some 27), .inl (.ias 4 (.s 25) (.s 26))⟩, (some []), [], 48, false⟩,
    ⟨⟨none, (some 28), .inl (.ld true 4 (.s 27))⟩, (some []), [], 112, false⟩,
    ⟨⟨none, (some 29), .inl (.eq false (.cells [.int, .int, .int, .int]) (.s 24) (.s 28))⟩, (some []), [], 255, false⟩,
    ⟨⟨none, (some 5), .inl (.mv (.s 29))⟩, (some []), [], 511, false⟩]))
  (.region [⟨none, (some 19), .inl (.mv (.s 6))⟩,
    ⟨none, (some 20), .inl (.bin .add (.s 19) (.c (.int .i64 1)))⟩,
    ⟨none, (some 6), .inl (.mv (.s 20))⟩]))
/-- gyttja/gyttjaref01.SameSpans -/
def k36 : Cd :=
  .seq (.region [⟨none, (some 4), .inl (.mv (.c (.bool false)))⟩])
  (.seq (.region [⟨none, (some 7), .inl (.mv (.s 0))⟩,
    ⟨none, (some 8), .inl (.len (.s 7))⟩,
    ⟨none, (some 9), .inl (.mv (.s 1))⟩,
    ⟨none, (some 10), .inl (.len (.s 9))⟩,
    ⟨none, (some 11), .inl (.bin .eql (.s 8) (.s 10))⟩,
    ⟨none, (some 5), .inl (.mv (.s 11))⟩])
  (.seq (.seq (.region [⟨none, (some 6), .inl (.mv (.c (.int .i64 0)))⟩])
  (.block 0 (.loop k36l0)))
  (.seq (.region [⟨none, (some 30), .inl (.mv (.s 5))⟩,
    ⟨none, (some 4), .inl (.mv (.s 30))⟩])
  (.ret))))
def k37l0 : Cd :=
  .seq (.region [⟨none, (some 7), .inl (.mv (.s 16))⟩])
  (.region [⟨none, (some 8), .inl (.alloc 23 [(.int .i64 0), (.int .i64 0), (.int .i64 0)])⟩,
    ⟨none, none, .inl (.st 3 (.s 8) (.s 17))⟩])
def k37l1 : Cd :=
  .block 1 (.seq (.seq (.region [⟨none, (some 18), .inl (.fa (.s 8) 0)⟩,
    ⟨none, (some 19), .inl (.ld false 1 (.s 18))⟩,
    ⟨none, (some 20), .inl (.bin .neq (.s 19) (.c (.int .i64 1)))⟩])
  (.cond (.s 20) (.seq (.region [⟨none, (some 21), .inl (.ld false 1 (.s 3))⟩,
     ⟨none, (some 22), .inl (.ld true 3 (.s 8))⟩,
     ⟨none, (some 23), .inr (.fn 65 [(.s 21), (.s 22)])⟩,
     ⟨none, (some 9), .inl (.alloc 82 [(.bool false), (.int .i64 0), (.int .i64 0), (.slice none 0 0), (.int .i64 0), (.bool false), (.bool false)])⟩,
     ⟨none, none, .inl (.st 7 (.s 9) (.s 23))⟩])
   (.seq (.region [⟨none, (some 24), .inl (.ld false 1 (.s 5))⟩,
     ⟨none, (some 25), .inl (.fa (.s 9) 1)⟩,
     ⟨none, (some 26), .inl (.ld false 1 (.s 25))⟩,
     ⟨none, (some 27), .inl (.bin .add (.s 24) (.s 26))⟩,
     ⟨none, none, .inl (.st 1 (.s 5) (.s 27))⟩])
   (.seq (.region [⟨none, (some 28), .inl (.ld false 1 (.s 6))⟩,
     ⟨none, (some 29), .inl (.fa (.s 9) 2)⟩,
     ⟨none, (some 30), .inl (.ld false 1 (.s 29))⟩,
     ⟨none, (some 31), .inl (.bin .add (.s 28) (.s 30))⟩,
     ⟨none, none, .inl (.st 1 (.s 6) (.s 31))⟩])
   (.exit 1))))
  (.skip)))
  (.seq (.seq (.region [⟨none, (some 32), .inl (.mv (.s 7))⟩,
    ⟨none, (some 33), .inl (.bin .neq (.s 32) (.c (.int .i64 (-1))))⟩])
  (.cond (.s 33) (.draw [⟨⟨none, (some 34), .inl (.ld false 1 (.s 4))⟩, (some []), [.fr 44], 0, false⟩,
     ⟨⟨none, (some 35), .inl (.mv (.s 7))⟩, (some []), [], 0, false⟩,
     ⟨⟨none, (some 36), .inl (.fa (.s 1) 2)⟩, (some []), [], 0, false⟩,
     ⟨⟨none, (some 37), .inl (.ld false 1 (.s 36))⟩, (some []), [], 4, false⟩,
     ⟨⟨none, (some 38), .inl (.fa (.s 8) 1)⟩, (some []), [], 0, false⟩,
     ⟨⟨none, (some 39), .inl (.ld false 1 (.s 38))⟩, (some []), [], 16, false⟩,
     ⟨⟨none, (some 40), .inr (.fn 25 [(.s 37), (.s 39)])⟩, (some []), [], 60, false⟩,
     ⟨⟨none, (some 41), .inl (.ld false 1 (.s 5))⟩, (some []), [], 0, false⟩,
     ⟨⟨none, (some 42), .inl (.ld false 1 (.s 6))⟩, (some []), [], 0, false⟩,
     ⟨⟨none, (some 43), .inl (.bld [(.int .i64 0), (.int .i64 0), (.int .i64 0), (.int .i64 0)] [(0, 1, (.s 35)), (1, 1, (.s 40)), (2, 1, (.s 41)), (3, 1, (.s 42))])⟩, (some []), [], 510, false⟩,
     ⟨⟨none, (some 44), .inl (.bs 56 4 1 [(.int .i64 0), (.int .i64 0), (.int .i64 0), (.int .i64 0)] [(0, (.s 43))])⟩, (some [.fr 44]), [], 1022, false⟩,
     ⟨⟨none, (some 45), .inl (.app 56 4 32 (.s 34) (.s 44))⟩, (some [.fr 45, .at 34]), [], 2047, false⟩,
     ⟨⟨none, none, .inl (.st 1 (.s 4) (.s 45))⟩, (some [.at 4]), [], 4095, false⟩])
  (.skip)))
  (.region [⟨none, none, .inl (.st 1 (.s 5) (.c (.int .i64 0)))⟩,
    ⟨none, none, .inl (.st 1 (.s 6) (.c (.int .i64 0)))⟩])))
/-- gyttja/sheet.Spans -/
def k37 : Cd :=
  .seq (.region [⟨none, (some 1), .inl (.box 26 4 (.s 0))⟩,
    ⟨none, (some 2), .inl (.mv (.c (.slice none 0 0)))⟩])
  (.seq (.seq (.region [⟨none, (some 10), .inl (.ld true 4 (.s 1))⟩,
    ⟨none, (some 11), .inr (.fn 23 [(.s 10)])⟩,
    ⟨none, (some 12), .inl (.bin .neq (.s 11) (.c (.int .i64 0)))⟩])
  (.cond (.s 12) (.seq (.region [⟨none, (some 2), .inl (.mv (.c (.slice none 0 0)))⟩])
   (.ret))
  (.skip)))
  (.seq (.region [⟨none, (some 13), .inr (.fn 66 [])⟩,
    ⟨none, (some 3), .inl (.alloc 84 [(.map none)])⟩,
    ⟨none, none, .inl (.st 1 (.s 3) (.s 13))⟩])
  (.seq (.region [⟨none, (some 4), .inl (.alloc 53 [(.slice none 0 0)])⟩])
  (.seq (.region [⟨none, (some 5), .inl (.alloc 3 [(.int .i64 0)])⟩,
    ⟨none, (some 6), .inl (.alloc 3 [(.int .i64 0)])⟩,
    ⟨none, none, .inl (.st 1 (.s 5) (.c (.int .i64 0)))⟩,
    ⟨none, none, .inl (.st 1 (.s 6) (.c (.int .i64 0)))⟩])
  (.seq (.seq (.region [⟨none, (some 14), .inl (.ld true 4 (.s 1))⟩,
    ⟨none, (some 15), .inr (.fn 62 [(.s 14)])⟩])
  (.block 0 (.rangeF (.s 15) [16, 17] k37l0 k37l1)))
  (.seq (.region [⟨none, (some 46), .inl (.ld false 1 (.s 4))⟩,
    ⟨none, (some 2), .inl (.mv (.s 46))⟩])
  (.ret)))))))
def k38l0 : Cd :=
  .seq (.seq (.region [⟨none, (some 10), .inl (.mv (.s 5))⟩,
    ⟨none, (some 11), .inl (.bin .add (.s 10) (.c (.int .i64 1)))⟩,
    ⟨none, (some 12), .inl (.mv (.s 3))⟩,
    ⟨none, (some 13), .inl (.len (.s 12))⟩,
    ⟨none, (some 14), .inl (.bin .lss (.s 11) (.s 13))⟩])
  (.cond (.s 14) (.skip)
  (.exit 0)))
  (.seq (.block 1 (.seq (.draw [⟨⟨none, (some 18), .inl (.ld true 4 (.s 1))⟩, (some []), [.fr 6], 0, false⟩,
    ⟨⟨none, (some 19), .inl (.mv (.s 3))⟩, (some []), [], 0, false⟩,
    ⟨⟨none, (some 20), .inl (.mv (.s 5))⟩, (some []), [], 0, false⟩,
    ⟨⟨none, (some 21), .inl (.ias 1 (.s 19) (.s 20))⟩, (some []), [], 6, false⟩,
    ⟨⟨none, (some 22), .inl (.ld false 1 (.s 21))⟩, (some []), [.fr 6], 14, false⟩,
    ⟨⟨none, (some 23), .inl (.mv (.s 3))⟩, (some []), [], 0, false⟩,
    ⟨⟨none, (some 24), .inl (.mv (.s 5))⟩, (some []), [], 0, false⟩,
    ⟨⟨none, (some 25), .inl (.bin .add (.s 24) (.c (.int .i64 1)))⟩, (some []), [], 64, false⟩,
    ⟨⟨none, (some 26), .inl (.ias 1 (.s 23) (.s 25))⟩, (some []), [], 224, false⟩,
    ⟨⟨none, (some 27), .inl (.ld false 1 (.s 26))⟩, (some []), [.fr 6], 480, false⟩,
    ⟨⟨none, (some 28), .inr (.fn 40 [(.s 18), (.s 22), (.s 27)])⟩, (some []), [.fr 6], 1023, false⟩,
    ⟨⟨none, (some 17), .inl (.mv (.s 28))⟩, (some []), [], 2047, false⟩,
    ⟨⟨none, (some 29), .inl (.ex (.s 17) 0)⟩, (some []), [], 4095, false⟩,
    ⟨⟨none, (some 30), .inl (.ex (.s 17) 1)⟩, (some []), [], 4095, false⟩,
    ⟨⟨none, (some 6), .inl (.alloc 56 [(.int .i64 0), (.int .i64 0), (.int .i64 0), (.int .i64 0)])⟩, (some [.fr 6]), [], 0, false⟩,
    ⟨⟨none, none, .inl (.st 4 (.s 6) (.s 29))⟩, (some [.fr 6]), [], 24575, false⟩,
    ⟨⟨none, (some 7), .inl (.mv (.s 30))⟩, (some []), [], 65535, false⟩])
  (.region [⟨none, (some 31), .inl (.mv (.s 4))⟩,
    ⟨none, (some 32), .inl (.ld true 4 (.s 6))⟩,
    ⟨none, (some 33), .inl (.bs 56 4 1 [(.int .i64 0), (.int .i64 0), (.int .i64 0), (.int .i64 0)] [(0, (.s 32))])⟩,
    ⟨none, (some 34), .inl (.app 56 4 32 (.s 31) (.s 33))⟩,
    ⟨none, (some 4), .inl (.mv (.s 34))⟩])))
  (.region [⟨none, (some 15), .inl (.mv (.s 5))⟩,
    ⟨none, (some 16), .inl (.bin .add (.s 15) (.c (.int .i64 1)))⟩,
    ⟨none, (some 5), .inl (.mv (.s 16))⟩]))
/-- gyttja/gyttjaref01.Spans -/
def k38 : Cd :=
  .seq (.region [⟨none, (some 1), .inl (.box 26 4 (.s 0))⟩,
    ⟨none, (some 2), .inl (.mv (.c (.slice none 0 0)))⟩])
  (.seq (.region [⟨none, (some 8), .inl (.ld true 4 (.s 1))⟩,
    ⟨none, (some 9), .inr (.fn 18 [(.s 8)])⟩,
    ⟨none, (some 3), .inl (.mv (.s 9))⟩])
  (.seq (.region [⟨none, (some 4), .inl (.mv (.c (.slice none 0 0)))⟩])
  (.seq (.seq (.region [⟨none, (some 5), .inl (.mv (.c (.int .i64 0)))⟩])
  (.block 0 (.loop k38l0)))
  (.seq (.region [⟨none, (some 35), .inl (.mv (.s 4))⟩,
    ⟨none, (some 2), .inl (.mv (.s 35))⟩])
  (.ret)))))
/-- gyttja/sheet.Between -/
def k39 : Cd :=
  .seq (.region [⟨none, (some 3), .inl (.box 26 4 (.s 0))⟩,
    ⟨none, (some 6), .inl (.alloc 56 [(.int .i64 0), (.int .i64 0), (.int .i64 0), (.int .i64 0)])⟩,
    ⟨none, (some 7), .inl (.mv (.c (.int .i64 0)))⟩])
  (.seq (.seq (.region [⟨none, (some 14), .inl (.ld true 4 (.s 3))⟩,
    ⟨none, (some 15), .inl (.mv (.s 1))⟩,
    ⟨none, (some 16), .inl (.mv (.s 2))⟩,
    ⟨none, (some 17), .inr (.fn 83 [(.s 14), (.s 15), (.s 16)])⟩,
    ⟨none, (some 8), .inl (.mv (.s 17))⟩])
  (.seq (.region [⟨none, (some 18), .inl (.mv (.s 8))⟩,
    ⟨none, (some 19), .inl (.bin .neq (.s 18) (.c (.int .i64 0)))⟩])
  (.cond (.s 19) (.seq (.region [⟨none, (some 20), .inl (.bld [(.int .i64 0), (.int .i64 0), (.int .i64 0), (.int .i64 0)] [])⟩,
     ⟨none, (some 21), .inl (.mv (.s 8))⟩,
     ⟨none, none, .inl (.st 4 (.s 6) (.s 20))⟩,
     ⟨none, (some 7), .inl (.mv (.s 21))⟩])
   (.ret))
  (.skip))))
  (.seq (.region [⟨none, (some 22), .inl (.ld true 4 (.s 3))⟩,
    ⟨none, (some 23), .inr (.fn 37 [(.s 22)])⟩,
    ⟨none, (some 9), .inl (.mv (.s 23))⟩])
  (.seq (.seq (.region [⟨none, (some 24), .inl (.mv (.s 2))⟩,
    ⟨none, (some 25), .inl (.mv (.s 1))⟩,
    ⟨none, (some 26), .inl (.bin .lss (.s 24) (.s 25))⟩])
  (.cond (.s 26) (.seq (.region [⟨none, (some 28), .inl (.mv (.s 9))⟩,
     ⟨none, (some 29), .inl (.mv (.s 2))⟩,
     ⟨none, (some 30), .inl (.mv (.s 1))⟩,
     ⟨none, (some 31), .inr (.fn 84 [(.s 28), (.s 29), (.s 30)])⟩,
     ⟨none, (some 27), .inl (.mv (.s 31))⟩,
     ⟨none, (some 32), .inl (.ex (.s 27) 0)⟩,
     ⟨none, (some 33), .inl (.ex (.s 27) 1)⟩,
     ⟨none, (some 10), .inl (.mv (.s 32))⟩,
     ⟨none, (some 11), .inl (.mv (.s 33))⟩])
   (.seq (.region [⟨none, (some 34), .inl (.mv (.s 1))⟩,
     ⟨none, (some 35), .inl (.mv (.s 2))⟩,
     ⟨none, (some 36), .inl (.mv (.s 11))⟩,
     ⟨none, (some 37), .inl (.neg (.s 36))⟩,
     ⟨none, (some 38), .inl (.mv (.s 10))⟩,
     ⟨none, (some 39), .inl (.neg (.s 38))⟩,
     ⟨none, (some 40), .inl (.bld [(.int .i64 0), (.int .i64 0), (.int .i64 0), (.int .i64 0)] [(0, 1, (.s 34)), (1, 1, (.s 35)), (2, 1, (.s 37)), (3, 1, (.s 39))])⟩,
     ⟨none, none, .inl (.st 4 (.s 6) (.s 40))⟩,
     ⟨none, (some 7), .inl (.mv (.c (.int .i64 0)))⟩])
   (.ret)))
  (.skip)))
  (.seq (.region [⟨none, (some 42), .inl (.mv (.s 9))⟩,
    ⟨none, (some 43), .inl (.mv (.s 1))⟩,
    ⟨none, (some 44), .inl (.mv (.s 2))⟩,
    ⟨none, (some 45), .inr (.fn 84 [(.s 42), (.s 43), (.s 44)])⟩,
    ⟨none, (some 41), .inl (.mv (.s 45))⟩,
    ⟨none, (some 46), .inl (.ex (.s 41) 0)⟩,
    ⟨none, (some 47), .inl (.ex (.s 41) 1)⟩,
    ⟨none, (some 12), .inl (.mv (.s 46))⟩,
    ⟨none, (some 13), .inl (.mv (.s 47))⟩])
  (.seq (.region [⟨none, (some 48), .inl (.mv (.s 1))⟩,
    ⟨none, (some 49), .inl (.mv (.s 2))⟩,
    ⟨none, (some 50), .inl (.mv (.s 12))⟩,
    ⟨none, (some 51), .inl (.mv (.s 13))⟩,
    ⟨none, (some 52), .inl (.bld [(.int .i64 0), (.int .i64 0), (.int .i64 0), (.int .i64 0)] [(0, 1, (.s 48)), (1, 1, (.s 49)), (2, 1, (.s 50)), (3, 1, (.s 51))])⟩,
    ⟨none, none, .inl (.st 4 (.s 6) (.s 52))⟩,
    ⟨none, (some 7), .inl (.mv (.c (.int .i64 0)))⟩])
  (.ret))))))
/-- gyttja/gyttjaref01.Between -/
def k40 : Cd :=
  .seq (.region [⟨none, (some 3), .inl (.box 26 4 (.s 0))⟩,
    ⟨none, (some 6), .inl (.alloc 56 [(.int .i64 0), (.int .i64 0), (.int .i64 0), (.int .i64 0)])⟩,
    ⟨none, (some 7), .inl (.mv (.c (.int .i64 0)))⟩])
  (.seq (.region [⟨none, (some 14), .inl (.ld true 4 (.s 3))⟩,
    ⟨none, (some 15), .inr (.fn 24 [(.s 14)])⟩,
    ⟨none, (some 8), .inl (.mv (.s 15))⟩])
  (.seq (.seq (.region [⟨none, (some 16), .inl (.mv (.s 8))⟩,
    ⟨none, (some 17), .inl (.bin .neq (.s 16) (.c (.int .i64 0)))⟩])
  (.cond (.s 17) (.seq (.region [⟨none, (some 18), .inl (.bld [(.int .i64 0), (.int .i64 0), (.int .i64 0), (.int .i64 0)] [])⟩,
     ⟨none, (some 19), .inl (.mv (.s 8))⟩,
     ⟨none, none, .inl (.st 4 (.s 6) (.s 18))⟩,
     ⟨none, (some 7), .inl (.mv (.s 19))⟩])
   (.ret))
  (.skip)))
  (.seq (.region [⟨none, (some 20), .inl (.ld true 4 (.s 3))⟩,
    ⟨none, (some 21), .inl (.mv (.s 1))⟩,
    ⟨none, (some 22), .inr (.fn 85 [(.s 20), (.s 21)])⟩,
    ⟨none, (some 9), .inl (.mv (.s 22))⟩])
  (.seq (.region [⟨none, (some 23), .inl (.ld true 4 (.s 3))⟩,
    ⟨none, (some 24), .inl (.mv (.s 2))⟩,
    ⟨none, (some 25), .inr (.fn 85 [(.s 23), (.s 24)])⟩,
    ⟨none, (some 10), .inl (.mv (.s 25))⟩])
  (.seq (.seq (.region [⟨none, (some 26), .inl (.mv (.s 9))⟩,
    ⟨none, (some 27), .inl (.bin .lss (.s 26) (.c (.int .i64 0)))⟩,
    ⟨none, (some 28), .inl (.mv (.s 27))⟩,
    ⟨(some (28, false)), (some 29), .inl (.mv (.s 10))⟩,
    ⟨(some (28, false)), (some 30), .inl (.bin .lss (.s 29) (.c (.int .i64 0)))⟩,
    ⟨none, (some 31), .inl (.pick (.s 28) (.c (.bool true)) (.s 30))⟩])
  (.cond (.s 31) (.seq (.region [⟨none, (some 32), .inl (.bld [(.int .i64 0), (.int .i64 0), (.int .i64 0), (.int .i64 0)] [])⟩,
     ⟨none, none, .inl (.st 4 (.s 6) (.s 32))⟩,
     ⟨none, (some 7), .inl (.mv (.c (.int .i64 3)))⟩])
   (.ret))
  (.skip)))
  (.seq (.region [⟨none, (some 34), .inl (.fa (.s 3) 3)⟩,
    ⟨none, (some 35), .inl (.ld false 1 (.s 34))⟩,
    ⟨none, (some 36), .inl (.mv (.s 9))⟩,
    ⟨none, (some 37), .inl (.mv (.s 10))⟩,
    ⟨none, (some 38), .inl (.mm false (.s 36) (.s 37))⟩,
    ⟨none, (some 39), .inl (.mv (.s 9))⟩,
    ⟨none, (some 40), .inl (.mv (.s 10))⟩,
    ⟨none, (some 41), .inl (.mm true (.s 39) (.s 40))⟩,
    ⟨none, (some 42), .inl (.slc 3 (.s 35) (some (.s 38)) (some (.s 41)) none)⟩,
    ⟨none, (some 43), .inr (.fn 33 [(.s 42)])⟩,
    ⟨none, (some 33), .inl (.mv (.s 43))⟩,
    ⟨none, (some 44), .inl (.ex (.s 33) 0)⟩,
    ⟨none, (some 45), .inl (.ex (.s 33) 1)⟩,
    ⟨none, (some 46), .inl (.ex (.s 33) 2)⟩,
    ⟨none, (some 11), .inl (.mv (.s 44))⟩,
    ⟨none, (some 12), .inl (.mv (.s 45))⟩,
    ⟨none, (some 13), .inl (.mv (.s 46))⟩])
  (.seq (.seq (.region [⟨none, (some 47), .inl (.mv (.s 9))⟩,
    ⟨none, (some 48), .inl (.mv (.s 10))⟩,
    ⟨none, (some 49), .inl (.bin .gtr (.s 47) (.s 48))⟩])
  (.cond (.s 49) (.seq (.region [⟨none, (some 50), .inl (.mv (.s 1))⟩,
     ⟨none, (some 51), .inl (.mv (.s 2))⟩,
     ⟨none, (some 52), .inl (.mv (.s 12))⟩,
     ⟨none, (some 53), .inl (.neg (.s 52))⟩,
     ⟨none, (some 54), .inl (.mv (.s 11))⟩,
     ⟨none, (some 55), .inl (.neg (.s 54))⟩,
     ⟨none, (some 56), .inl (.bld [(.int .i64 0), (.int .i64 0), (.int .i64 0), (.int .i64 0)] [(0, 1, (.s 50)), (1, 1, (.s 51)), (2, 1, (.s 53)), (3, 1, (.s 55))])⟩,
     ⟨none, none, .inl (.st 4 (.s 6) (.s 56))⟩,
     ⟨none, (some 7), .inl (.mv (.c (.int .i64 0)))⟩])
   (.ret))
  (.skip)))
  (.seq (.region [⟨none, (some 57), .inl (.mv (.s 1))⟩,
    ⟨none, (some 58), .inl (.mv (.s 2))⟩,
    ⟨none, (some 59), .inl (.mv (.s 11))⟩,
    ⟨none, (some 60), .inl (.mv (.s 12))⟩,
    ⟨none, (some 61), .inl (.bld [(.int .i64 0), (.int .i64 0), (.int .i64 0), (.int .i64 0)] [(0, 1, (.s 57)), (1, 1, (.s 58)), (2, 1, (.s 59)), (3, 1, (.s 60))])⟩,
    ⟨none, none, .inl (.st 4 (.s 6) (.s 61))⟩,
    ⟨none, (some 7), .inl (.mv (.c (.int .i64 0)))⟩])
  (.ret)))))))))
/-- gyttja/sheet.Rows -/
def k41 : Cd :=
  .seq (.region [⟨none, (some 3), .inl (.box 26 4 (.s 0))⟩,
    ⟨none, (some 6), .inl (.mv (.c (.slice none 0 0)))⟩,
    ⟨none, (some 7), .inl (.mv (.c (.int .i64 0)))⟩])
  (.seq (.seq (.region [⟨none, (some 9), .inl (.ld true 4 (.s 3))⟩,
    ⟨none, (some 10), .inl (.mv (.s 1))⟩,
    ⟨none, (some 11), .inl (.mv (.s 2))⟩,
    ⟨none, (some 12), .inr (.fn 86 [(.s 9), (.s 10), (.s 11)])⟩,
    ⟨none, (some 8), .inl (.mv (.s 12))⟩])
  (.seq (.region [⟨none, (some 13), .inl (.mv (.s 8))⟩,
    ⟨none, (some 14), .inl (.bin .neq (.s 13) (.c (.int .i64 0)))⟩])
  (.cond (.s 14) (.seq (.region [⟨none, (some 15), .inl (.mv (.s 8))⟩,
     ⟨none, (some 6), .inl (.mv (.c (.slice none 0 0)))⟩,
     ⟨none, (some 7), .inl (.mv (.s 15))⟩])
   (.ret))
  (.skip))))
  (.seq (.draw [⟨⟨none, (some 16), .inl (.fa (.s 3) 3)⟩, (some []), [], 0, false⟩,
    ⟨⟨none, (some 17), .inl (.ld false 1 (.s 16))⟩, (some []), [], 1, false⟩,
    ⟨⟨none, (some 18), .inl (.ld true 4 (.s 3))⟩, (some []), [], 0, false⟩,
    ⟨⟨none, (some 19), .inl (.mv (.s 1))⟩, (some []), [], 0, false⟩,
    ⟨⟨none, (some 20), .inr (.fn 88 [(.s 18), (.s 19)])⟩, (some []), [], 12, false⟩,
    ⟨⟨none, (some 21), .inl (.bin .add (.s 20) (.c (.int .i64 1)))⟩, (some []), [], 28, false⟩,
    ⟨⟨none, (some 22), .inl (.ld true 4 (.s 3))⟩, (some []), [], 0, false⟩,
    ⟨⟨none, (some 23), .inl (.mv (.s 2))⟩, (some []), [], 0, false⟩,
    ⟨⟨none, (some 24), .inr (.fn 88 [(.s 22), (.s 23)])⟩, (some []), [], 220, false⟩,
    ⟨⟨none, (some 25), .inl (.slc 3 (.s 17) (some (.s 21)) (some (.s 24)) none)⟩, (some []), [], 511, false⟩,
    ⟨⟨none, (some 26), .inr (.fn 87 [(.s 25)])⟩, (some []), [], 1023, false⟩,
    ⟨⟨none, (some 6), .inl (.mv (.s 26))⟩, (some []), [], 2047, false⟩,
    ⟨⟨none, (some 7), .inl (.mv (.c (.int .i64 0)))⟩, (some []), [], 4095, false⟩])
  (.ret)))
/-- gyttja/gyttjaref01.Rows -/
def k42 : Cd :=
  .seq (.region [⟨none, (some 3), .inl (.box 26 4 (.s 0))⟩,
    ⟨none, (some 6), .inl (.mv (.c (.slice none 0 0)))⟩,
    ⟨none, (some 7), .inl (.mv (.c (.int .i64 0)))⟩])
  (.seq (.region [⟨none, (some 12), .inl (.ld true 4 (.s 3))⟩,
    ⟨none, (some 13), .inl (.mv (.s 1))⟩,
    ⟨none, (some 14), .inl (.mv (.s 2))⟩,
    ⟨none, (some 15), .inr (.fn 89 [(.s 12), (.s 13), (.s 14), (.c (.bool true))])⟩,
    ⟨none, (some 11), .inl (.mv (.s 15))⟩,
    ⟨none, (some 16), .inl (.ex (.s 11) 0)⟩,
    ⟨none, (some 17), .inl (.ex (.s 11) 1)⟩,
    ⟨none, (some 18), .inl (.ex (.s 11) 2)⟩,
    ⟨none, (some 8), .inl (.mv (.s 16))⟩,
    ⟨none, (some 9), .inl (.mv (.s 17))⟩,
    ⟨none, (some 10), .inl (.mv (.s 18))⟩])
  (.seq (.seq (.region [⟨none, (some 19), .inl (.mv (.s 10))⟩,
    ⟨none, (some 20), .inl (.bin .neq (.s 19) (.c (.int .i64 0)))⟩])
  (.cond (.s 20) (.seq (.region [⟨none, (some 21), .inl (.mv (.s 10))⟩,
     ⟨none, (some 6), .inl (.mv (.c (.slice none 0 0)))⟩,
     ⟨none, (some 7), .inl (.mv (.s 21))⟩])
   (.ret))
  (.skip)))
  (.seq (.region [⟨none, (some 22), .inl (.bs 23 3 0 [(.int .i64 0), (.int .i64 0), (.int .i64 0)] [])⟩,
    ⟨none, (some 23), .inl (.fa (.s 3) 3)⟩,
    ⟨none, (some 24), .inl (.ld false 1 (.s 23))⟩,
    ⟨none, (some 25), .inl (.mv (.s 8))⟩,
    ⟨none, (some 26), .inl (.bin .add (.s 25) (.c (.int .i64 1)))⟩,
    ⟨none, (some 27), .inl (.mv (.s 9))⟩,
    ⟨none, (some 28), .inl (.slc 3 (.s 24) (some (.s 26)) (some (.s 27)) none)⟩,
    ⟨none, (some 29), .inl (.app 23 3 24 (.s 22) (.s 28))⟩,
    ⟨none, (some 6), .inl (.mv (.s 29))⟩,
    ⟨none, (some 7), .inl (.mv (.c (.int .i64 0)))⟩])
  (.ret))))
/-- gyttja/sheet.Splice -/
def k43 : Cd :=
  .seq (.region [⟨none, (some 4), .inl (.box 26 4 (.s 0))⟩,
    ⟨none, (some 8), .inl (.alloc 26 [(.int .i64 0), (.int .i64 0), (.int .i64 0), (.slice none 0 0)])⟩,
    ⟨none, (some 9), .inl (.mv (.c (.int .i64 0)))⟩])
  (.seq (.seq (.region [⟨none, (some 13), .inl (.ld true 4 (.s 4))⟩,
    ⟨none, (some 14), .inl (.mv (.s 1))⟩,
    ⟨none, (some 15), .inl (.mv (.s 2))⟩,
    ⟨none, (some 16), .inr (.fn 86 [(.s 13), (.s 14), (.s 15)])⟩,
    ⟨none, (some 10), .inl (.mv (.s 16))⟩])
  (.seq (.region [⟨none, (some 17), .inl (.mv (.s 10))⟩,
    ⟨none, (some 18), .inl (.bin .neq (.s 17) (.c (.int .i64 0)))⟩])
  (.cond (.s 18) (.seq (.region [⟨none, (some 19), .inl (.bld [(.int .i64 0), (.int .i64 0), (.int .i64 0), (.slice none 0 0)] [])⟩,
     ⟨none, (some 20), .inl (.mv (.s 10))⟩,
     ⟨none, none, .inl (.st 4 (.s 8) (.s 19))⟩,
     ⟨none, (some 9), .inl (.mv (.s 20))⟩])
   (.ret))
  (.skip))))
  (.seq (.region [⟨none, (some 21), .inl (.ld true 4 (.s 4))⟩,
    ⟨none, (some 11), .inl (.alloc 26 [(.int .i64 0), (.int .i64 0), (.int .i64 0), (.slice none 0 0)])⟩,
    ⟨none, none, .inl (.st 4 (.s 11) (.s 21))⟩])
  (.seq (.draw [⟨⟨none, (some 22), .inl (.fa (.s 4) 3)⟩, (some []), [], 0, false⟩,
    ⟨⟨none, (some 23), .inl (.ld false 1 (.s 22))⟩, (some []), [], 1, false⟩,
    ⟨⟨none, (some 24), .inl (.ld true 4 (.s 4))⟩, (some []), [], 0, false⟩,
    ⟨⟨none, (some 25), .inl (.mv (.s 1))⟩, (some []), [], 0, false⟩,
    ⟨⟨none, (some 26), .inr (.fn 88 [(.s 24), (.s 25)])⟩, (some []), [], 12, false⟩,
    ⟨⟨none, (some 27), .inl (.bin .add (.s 26) (.c (.int .i64 1)))⟩, (some []), [], 28, false⟩,
    ⟨⟨none, (some 28), .inl (.slc 3 (.s 23) none (some (.s 27)) none)⟩, (some []), [], 63, false⟩,
    ⟨⟨none, (some 29), .inl (.mv (.s 3))⟩, (some []), [], 0, false⟩,
    ⟨⟨none, (some 30), .inl (.fa (.s 4) 3)⟩, (some []), [], 0, false⟩,
    ⟨⟨none, (some 31), .inl (.ld false 1 (.s 30))⟩, (some []), [], 256, false⟩,
    ⟨⟨none, (some 32), .inl (.ld true 4 (.s 4))⟩, (some []), [], 0, false⟩,
    ⟨⟨none, (some 33), .inl (.mv (.s 2))⟩, (some []), [], 0, false⟩,
    ⟨⟨none, (some 34), .inr (.fn 88 [(.s 32), (.s 33)])⟩, (some []), [], 3100, false⟩,
    ⟨⟨none, (some 35), .inl (.slc 3 (.s 31) (some (.s 34)) none none)⟩, (some []), [], 7964, false⟩,
    ⟨⟨none, (some 36), .inl (.bs 24 1 3 [(.slice none 0 0)] [(0, (.s 28)), (1, (.s 29)), (2, (.s 35))])⟩, (some [.fr 36]), [], 16383, false⟩,
    ⟨⟨none, (some 37), .inr (.fn 90 [(.s 36)])⟩, (some []), [], 32767, false⟩,
    ⟨⟨none, (some 38), .inl (.fa (.s 11) 3)⟩, (some []), [], 65535, false⟩,
    ⟨⟨none, none, .inl (.st 1 (.s 38) (.s 37))⟩, (some [.at 11]), [], 131071, false⟩])
  (.seq (.seq (.region [⟨none, (some 39), .inl (.ld true 4 (.s 11))⟩,
    ⟨none, (some 40), .inr (.fn 23 [(.s 39)])⟩,
    ⟨none, (some 12), .inl (.mv (.s 40))⟩])
  (.seq (.region [⟨none, (some 41), .inl (.mv (.s 12))⟩,
    ⟨none, (some 42), .inl (.bin .neq (.s 41) (.c (.int .i64 0)))⟩])
  (.cond (.s 42) (.seq (.region [⟨none, (some 43), .inl (.bld [(.int .i64 0), (.int .i64 0), (.int .i64 0), (.slice none 0 0)] [])⟩,
     ⟨none, (some 44), .inl (.mv (.s 12))⟩,
     ⟨none, none, .inl (.st 4 (.s 8) (.s 43))⟩,
     ⟨none, (some 9), .inl (.mv (.s 44))⟩])
   (.ret))
  (.skip))))
  (.seq (.region [⟨none, (some 45), .inl (.ld true 4 (.s 11))⟩,
    ⟨none, none, .inl (.st 4 (.s 8) (.s 45))⟩,
    ⟨none, (some 9), .inl (.mv (.c (.int .i64 0)))⟩])
  (.ret))))))
/-- gyttja/gyttjaref01.Splice -/
def k44 : Cd :=
  .seq (.region [⟨none, (some 4), .inl (.box 26 4 (.s 0))⟩,
    ⟨none, (some 8), .inl (.alloc 26 [(.int .i64 0), (.int .i64 0), (.int .i64 0), (.slice none 0 0)])⟩,
    ⟨none, (some 9), .inl (.mv (.c (.int .i64 0)))⟩])
  (.seq (.region [⟨none, (some 16), .inl (.ld true 4 (.s 4))⟩,
    ⟨none, (some 17), .inl (.mv (.s 1))⟩,
    ⟨none, (some 18), .inl (.mv (.s 2))⟩,
    ⟨none, (some 19), .inr (.fn 89 [(.s 16), (.s 17), (.s 18), (.c (.bool true))])⟩,
    ⟨none, (some 15), .inl (.mv (.s 19))⟩,
    ⟨none, (some 20), .inl (.ex (.s 15) 0)⟩,
    ⟨none, (some 21), .inl (.ex (.s 15) 1)⟩,
    ⟨none, (some 22), .inl (.ex (.s 15) 2)⟩,
    ⟨none, (some 10), .inl (.mv (.s 20))⟩,
    ⟨none, (some 11), .inl (.mv (.s 21))⟩,
    ⟨none, (some 12), .inl (.mv (.s 22))⟩])
  (.seq (.seq (.region [⟨none, (some 23), .inl (.mv (.s 12))⟩,
    ⟨none, (some 24), .inl (.bin .neq (.s 23) (.c (.int .i64 0)))⟩])
  (.cond (.s 24) (.seq (.region [⟨none, (some 25), .inl (.bld [(.int .i64 0), (.int .i64 0), (.int .i64 0), (.slice none 0 0)] [])⟩,
     ⟨none, (some 26), .inl (.mv (.s 12))⟩,
     ⟨none, none, .inl (.st 4 (.s 8) (.s 25))⟩,
     ⟨none, (some 9), .inl (.mv (.s 26))⟩])
   (.ret))
  (.skip)))
  (.seq (.region [⟨none, (some 27), .inl (.bs 23 3 0 [(.int .i64 0), (.int .i64 0), (.int .i64 0)] [])⟩,
    ⟨none, (some 28), .inl (.fa (.s 4) 3)⟩,
    ⟨none, (some 29), .inl (.ld false 1 (.s 28))⟩,
    ⟨none, (some 30), .inl (.mv (.s 10))⟩,
    ⟨none, (some 31), .inl (.bin .add (.s 30) (.c (.int .i64 1)))⟩,
    ⟨none, (some 32), .inl (.slc 3 (.s 29) none (some (.s 31)) none)⟩,
    ⟨none, (some 33), .inl (.app 23 3 24 (.s 27) (.s 32))⟩,
    ⟨none, (some 13), .inl (.mv (.s 33))⟩])
  (.seq (.region [⟨none, (some 34), .inl (.mv (.s 13))⟩,
    ⟨none, (some 35), .inl (.mv (.s 3))⟩,
    ⟨none, (some 36), .inl (.app 23 3 24 (.s 34) (.s 35))⟩,
    ⟨none, (some 13), .inl (.mv (.s 36))⟩])
  (.seq (.region [⟨none, (some 37), .inl (.mv (.s 13))⟩,
    ⟨none, (some 38), .inl (.fa (.s 4) 3)⟩,
    ⟨none, (some 39), .inl (.ld false 1 (.s 38))⟩,
    ⟨none, (some 40), .inl (.mv (.s 11))⟩,
    ⟨none, (some 41), .inl (.slc 3 (.s 39) (some (.s 40)) none none)⟩,
    ⟨none, (some 42), .inl (.app 23 3 24 (.s 37) (.s 41))⟩,
    ⟨none, (some 13), .inl (.mv (.s 42))⟩])
  (.seq (.region [⟨none, (some 43), .inl (.fa (.s 4) 0)⟩,
    ⟨none, (some 44), .inl (.ld false 1 (.s 43))⟩,
    ⟨none, (some 45), .inl (.fa (.s 4) 1)⟩,
    ⟨none, (some 46), .inl (.ld false 1 (.s 45))⟩,
    ⟨none, (some 47), .inl (.fa (.s 4) 2)⟩,
    ⟨none, (some 48), .inl (.ld false 1 (.s 47))⟩,
    ⟨none, (some 49), .inl (.mv (.s 13))⟩,
    ⟨none, (some 50), .inl (.bld [(.int .i64 0), (.int .i64 0), (.int .i64 0), (.slice none 0 0)] [(0, 1, (.s 44)), (1, 1, (.s 46)), (2, 1, (.s 48)), (3, 1, (.s 49))])⟩,
    ⟨none, (some 14), .inl (.alloc 26 [(.int .i64 0), (.int .i64 0), (.int .i64 0), (.slice none 0 0)])⟩,
    ⟨none, none, .inl (.st 4 (.s 14) (.s 50))⟩])
  (.seq (.region [⟨none, (some 51), .inl (.ld true 4 (.s 14))⟩,
    ⟨none, (some 52), .inr (.fn 24 [(.s 51)])⟩,
    ⟨none, (some 12), .inl (.mv (.s 52))⟩])
  (.seq (.seq (.region [⟨none, (some 53), .inl (.mv (.s 12))⟩,
    ⟨none, (some 54), .inl (.bin .neq (.s 53) (.c (.int .i64 0)))⟩])
  (.cond (.s 54) (.seq (.region [⟨none, (some 55), .inl (.bld [(.int .i64 0), (.int .i64 0), (.int .i64 0), (.slice none 0 0)] [])⟩,
     ⟨none, (some 56), .inl (.mv (.s 12))⟩,
     ⟨none, none, .inl (.st 4 (.s 8) (.s 55))⟩,
     ⟨none, (some 9), .inl (.mv (.s 56))⟩])
   (.ret))
  (.skip)))
  (.seq (.region [⟨none, (some 57), .inl (.ld true 4 (.s 14))⟩,
    ⟨none, none, .inl (.st 4 (.s 8) (.s 57))⟩,
    ⟨none, (some 9), .inl (.mv (.c (.int .i64 0)))⟩])
  (.ret))))))))))
/-- gyttja/sheet.Cut -/
def k45 : Cd :=
  .seq (.region [⟨none, (some 3), .inl (.box 26 4 (.s 0))⟩,
    ⟨none, (some 6), .inl (.alloc 26 [(.int .i64 0), (.int .i64 0), (.int .i64 0), (.slice none 0 0)])⟩,
    ⟨none, (some 7), .inl (.mv (.c (.int .i64 0)))⟩])
  (.seq (.seq (.region [⟨none, (some 10), .inl (.ld true 4 (.s 3))⟩,
    ⟨none, (some 11), .inl (.mv (.s 1))⟩,
    ⟨none, (some 12), .inl (.mv (.s 2))⟩,
    ⟨none, (some 13), .inr (.fn 83 [(.s 10), (.s 11), (.s 12)])⟩,
    ⟨none, (some 8), .inl (.mv (.s 13))⟩])
  (.seq (.region [⟨none, (some 14), .inl (.mv (.s 8))⟩,
    ⟨none, (some 15), .inl (.bin .neq (.s 14) (.c (.int .i64 0)))⟩])
  (.cond (.s 15) (.seq (.region [⟨none, (some 16), .inl (.bld [(.int .i64 0), (.int .i64 0), (.int .i64 0), (.slice none 0 0)] [])⟩,
     ⟨none, (some 17), .inl (.mv (.s 8))⟩,
     ⟨none, none, .inl (.st 4 (.s 6) (.s 16))⟩,
     ⟨none, (some 7), .inl (.mv (.s 17))⟩])
   (.ret))
  (.skip))))
  (.seq (.seq (.region [⟨none, (some 18), .inl (.mv (.s 2))⟩,
    ⟨none, (some 19), .inl (.mv (.s 1))⟩,
    ⟨none, (some 20), .inl (.bin .lss (.s 18) (.s 19))⟩])
  (.cond (.s 20) (.seq (.region [⟨none, (some 21), .inl (.bld [(.int .i64 0), (.int .i64 0), (.int .i64 0), (.slice none 0 0)] [])⟩,
     ⟨none, none, .inl (.st 4 (.s 6) (.s 21))⟩,
     ⟨none, (some 7), .inl (.mv (.c (.int .i64 15)))⟩])
   (.ret))
  (.skip)))
  (.seq (.region [⟨none, (some 22), .inl (.ld true 4 (.s 3))⟩,
    ⟨none, (some 9), .inl (.alloc 26 [(.int .i64 0), (.int .i64 0), (.int .i64 0), (.slice none 0 0)])⟩,
    ⟨none, none, .inl (.st 4 (.s 9) (.s 22))⟩])
  (.seq (.draw [⟨⟨none, (some 23), .inl (.fa (.s 3) 3)⟩, (some []), [], 0, false⟩,
    ⟨⟨none, (some 24), .inl (.ld false 1 (.s 23))⟩, (some []), [], 1, false⟩,
    ⟨⟨none, (some 25), .inl (.ld true 4 (.s 3))⟩, (some []), [], 0, false⟩,
    ⟨⟨none, (some 26), .inl (.mv (.s 1))⟩, (some []), [], 0, false⟩,
    ⟨⟨none, (some 27), .inr (.fn 88 [(.s 25), (.s 26)])⟩, (some []), [], 12, false⟩,
    ⟨⟨none, (some 28), .inl (.ld true 4 (.s 3))⟩, (some []), [], 0, false⟩,
    ⟨⟨none, (some 29), .inl (.mv (.s 2))⟩, (some []), [], 0, false⟩,
    ⟨⟨none, (some 30), .inr (.fn 88 [(.s 28), (.s 29)])⟩, (some []), [], 124, false⟩,
    ⟨⟨none, (some 31), .inl (.bin .add (.s 30) (.c (.int .i64 1)))⟩, (some []), [], 252, false⟩,
    ⟨⟨none, (some 32), .inl (.slc 3 (.s 24) (some (.s 27)) (some (.s 31)) none)⟩, (some []), [], 511, false⟩,
    ⟨⟨none, (some 33), .inr (.fn 87 [(.s 32)])⟩, (some []), [], 1023, false⟩,
    ⟨⟨none, (some 34), .inl (.fa (.s 9) 3)⟩, (some []), [], 2047, false⟩,
    ⟨⟨none, none, .inl (.st 1 (.s 34) (.s 33))⟩, (some [.at 9]), [], 4095, false⟩])
  (.seq (.region [⟨none, (some 35), .inl (.ld true 4 (.s 9))⟩,
    ⟨none, none, .inl (.st 4 (.s 6) (.s 35))⟩,
    ⟨none, (some 7), .inl (.mv (.c (.int .i64 0)))⟩])
  (.ret))))))
/-- gyttja/gyttjaref01.Cut -/
def k46 : Cd :=
  .seq (.region [⟨none, (some 3), .inl (.box 26 4 (.s 0))⟩,
    ⟨none, (some 6), .inl (.alloc 26 [(.int .i64 0), (.int .i64 0), (.int .i64 0), (.slice none 0 0)])⟩,
    ⟨none, (some 7), .inl (.mv (.c (.int .i64 0)))⟩])
  (.seq (.region [⟨none, (some 12), .inl (.ld true 4 (.s 3))⟩,
    ⟨none, (some 13), .inl (.mv (.s 1))⟩,
    ⟨none, (some 14), .inl (.mv (.s 2))⟩,
    ⟨none, (some 15), .inr (.fn 89 [(.s 12), (.s 13), (.s 14), (.c (.bool false))])⟩,
    ⟨none, (some 11), .inl (.mv (.s 15))⟩,
    ⟨none, (some 16), .inl (.ex (.s 11) 0)⟩,
    ⟨none, (some 17), .inl (.ex (.s 11) 1)⟩,
    ⟨none, (some 18), .inl (.ex (.s 11) 2)⟩,
    ⟨none, (some 8), .inl (.mv (.s 16))⟩,
    ⟨none, (some 9), .inl (.mv (.s 17))⟩,
    ⟨none, (some 10), .inl (.mv (.s 18))⟩])
  (.seq (.seq (.region [⟨none, (some 19), .inl (.mv (.s 10))⟩,
    ⟨none, (some 20), .inl (.bin .neq (.s 19) (.c (.int .i64 0)))⟩])
  (.cond (.s 20) (.seq (.region [⟨none, (some 21), .inl (.bld [(.int .i64 0), (.int .i64 0), (.int .i64 0), (.slice none 0 0)] [])⟩,
     ⟨none, (some 22), .inl (.mv (.s 10))⟩,
     ⟨none, none, .inl (.st 4 (.s 6) (.s 21))⟩,
     ⟨none, (some 7), .inl (.mv (.s 22))⟩])
   (.ret))
  (.skip)))
  (.seq (.draw [⟨⟨none, (some 23), .inl (.fa (.s 3) 0)⟩, (some []), [], 0, false⟩,
    ⟨⟨none, (some 24), .inl (.ld false 1 (.s 23))⟩, (some []), [.fr 29, .fr 36], 1, false⟩,
    ⟨⟨none, (some 25), .inl (.fa (.s 3) 1)⟩, (some []), [], 0, false⟩,
    ⟨⟨none, (some 26), .inl (.ld false 1 (.s 25))⟩, (some []), [.fr 29, .fr 36], 4, false⟩,
    ⟨⟨none, (some 27), .inl (.fa (.s 3) 2)⟩, (some []), [], 0, false⟩,
    ⟨⟨none, (some 28), .inl (.ld false 1 (.s 27))⟩, (some []), [.fr 29, .fr 36], 16, false⟩,
    ⟨⟨none, (some 29), .inl (.bs 23 3 0 [(.int .i64 0), (.int .i64 0), (.int .i64 0)] [])⟩, (some [.fr 29]), [], 0, false⟩,
    ⟨⟨none, (some 30), .inl (.fa (.s 3) 3)⟩, (some []), [], 0, false⟩,
    ⟨⟨none, (some 31), .inl (.ld false 1 (.s 30))⟩, (some []), [.fr 29], 128, false⟩,
    ⟨⟨none, (some 32), .inl (.mv (.s 8))⟩, (some []), [], 0, false⟩,
    ⟨⟨none, (some 33), .inl (.mv (.s 9))⟩, (some []), [], 0, false⟩,
    ⟨⟨none, (some 34), .inl (.bin .add (.s 33) (.c (.int .i64 1)))⟩, (some []), [], 1024, false⟩,
    ⟨⟨none, (some 35), .inl (.slc 3 (.s 31) (some (.s 32)) (some (.s 34)) none)⟩, (some []), [.fr 29], 3968, false⟩,
    ⟨⟨none, (some 36), .inl (.app 23 3 24 (.s 29) (.s 35))⟩, (some [.fr 36, .fr 29]), [], 8128, false⟩,
    ⟨⟨none, (some 37), .inl (.bld [(.int .i64 0), (.int .i64 0), (.int .i64 0), (.slice none 0 0)] [(0, 1, (.s 24)), (1, 1, (.s 26)), (2, 1, (.s 28)), (3, 1, (.s 36))])⟩, (some []), [], 16383, false⟩,
    ⟨⟨none, none, .inl (.st 4 (.s 6) (.s 37))⟩, (some [.at 6]), [], 32767, false⟩,
    ⟨⟨none, (some 7), .inl (.mv (.c (.int .i64 0)))⟩, (some []), [], 65535, false⟩])
  (.ret))))
def k47l0 : Cd :=
  .seq (.seq (.region [⟨none, (some 12), .inl (.mv (.s 6))⟩,
    ⟨none, (some 13), .inl (.mv (.s 0))⟩,
    ⟨none, (some 14), .inl (.len (.s 13))⟩,
    ⟨none, (some 15), .inl (.bin .lss (.s 12) (.s 14))⟩,
    ⟨none, (some 16), .inl (.mv (.s 15))⟩,
    ⟨(some (16, true)), (some 17), .inl (.mv (.s 5))⟩,
    ⟨none, (some 18), .inl (.pick (.s 16) (.s 17) (.c (.bool false)))⟩])
  (.cond (.s 18) (.skip)
  (.exit 0)))
  (.seq (.block 1 (.draw [⟨⟨none, (some 21), .inl (.mv (.s 0))⟩, (some []), [], 0, false⟩,
    ⟨⟨none, (some 22), .inl (.mv (.s 6))⟩, (some []), [], 0, false⟩,
    ⟨⟨none, (some 23), .inl (.ias 3 (.s 21) (.s 22))⟩, (some []), [], 3, false⟩,
    ⟨⟨none, (some 24), .inl (.ld true 3 (.s 23))⟩, (some []), [], 7, false⟩,
    ⟨⟨none, (some 25), .inl (.mv (.s 1))⟩, (some []), [], 0, false⟩,
    ⟨⟨none, (some 26), .inl (.mv (.s 6))⟩, (some []), [], 0, false⟩,
    ⟨⟨none, (some 27), .inl (.ias 3 (.s 25) (.s 26))⟩, (some []), [], 48, false⟩,
    ⟨⟨none, (some 28), .inl (.ld true 3 (.s 27))⟩, (some []), [], 112, false⟩,
    ⟨⟨none, (some 29), .inl (.eq false (.cells [.int, .int, .int]) (.s 24) (.s 28))⟩, (some []), [], 255, false⟩,
    ⟨⟨none, (some 5), .inl (.mv (.s 29))⟩, (some []), [], 511, false⟩]))
  (.region [⟨none, (some 19), .inl (.mv (.s 6))⟩,
    ⟨none, (some 20), .inl (.bin .add (.s 19) (.c (.int .i64 1)))⟩,
    ⟨none, (some 6), .inl (.mv (.s 20))⟩]))
/-- gyttja/gyttjaref01.SameRows -/
def k47 : Cd :=
  .seq (.region [⟨none, (some 4), .inl (.mv (.c (.bool false)))⟩])
  (.seq (.region [⟨none, (some 7), .inl (.mv (.s 0))⟩,
    ⟨none, (some 8), .inl (.len (.s 7))⟩,
    ⟨none, (some 9), .inl (.mv (.s 1))⟩,
    ⟨none, (some 10), .inl (.len (.s 9))⟩,
    ⟨none, (some 11), .inl (.bin .eql (.s 8) (.s 10))⟩,
    ⟨none, (some 5), .inl (.mv (.s 11))⟩])
  (.seq (.seq (.region [⟨none, (some 6), .inl (.mv (.c (.int .i64 0)))⟩])
  (.block 0 (.loop k47l0)))
  (.seq (.region [⟨none, (some 30), .inl (.mv (.s 5))⟩,
    ⟨none, (some 4), .inl (.mv (.s 30))⟩])
  (.ret))))
def k48l0 : Cd :=
  .seq (.region [⟨none, (some 24), .inl (.bin .lss (.s 23) (.s 22))⟩])
  (.seq (.cond (.s 24) (.skip)
  (.exit 0))
  (.seq (.block 1 (.seq (.region [⟨none, (some 25), .inl (.ias 7 (.s 21) (.s 23))⟩,
    ⟨none, (some 26), .inl (.ld true 7 (.s 25))⟩,
    ⟨none, (some 11), .inl (.alloc 82 [(.bool false), (.int .i64 0), (.int .i64 0), (.slice none 0 0), (.int .i64 0), (.bool false), (.bool false)])⟩,
    ⟨none, none, .inl (.st 7 (.s 11) (.s 26))⟩])
  (.seq (.region [⟨none, (some 27), .inl (.fa (.s 11) 1)⟩,
    ⟨none, (some 28), .inl (.ld false 1 (.s 27))⟩,
    ⟨none, (some 12), .inl (.mv (.s 28))⟩])
  (.seq (.seq (.region [⟨none, (some 29), .inl (.fa (.s 11) 6)⟩,
    ⟨none, (some 30), .inl (.ld false 1 (.s 29))⟩])
  (.cond (.s 30) (.seq (.region [⟨none, (some 31), .inl (.mv (.s 12))⟩,
     ⟨none, (some 32), .inl (.mv (.s 1))⟩,
     ⟨none, (some 33), .inl (.mv (.s 9))⟩,
     ⟨none, (some 34), .inl (.fa (.s 11) 2)⟩,
     ⟨none, (some 35), .inl (.ld false 1 (.s 34))⟩,
     ⟨none, (some 36), .inl (.fa (.s 11) 1)⟩,
     ⟨none, (some 37), .inl (.ld false 1 (.s 36))⟩,
     ⟨none, (some 38), .inl (.bin .sub (.s 35) (.s 37))⟩,
     ⟨none, (some 39), .inl (.bin .add (.s 38) (.c (.int .i64 1)))⟩,
     ⟨none, (some 40), .inr (.fn 91 [(.s 32), (.s 33), (.s 39)])⟩,
     ⟨none, (some 41), .inl (.bin .add (.s 31) (.s 40))⟩,
     ⟨none, (some 12), .inl (.mv (.s 41))⟩])
   (.region [⟨none, (some 42), .inl (.mv (.s 9))⟩,
     ⟨none, (some 43), .inl (.bin .add (.s 42) (.c (.int .i64 1)))⟩,
     ⟨none, (some 9), .inl (.mv (.s 43))⟩]))
  (.skip)))
  (.region [⟨none, (some 44), .inl (.mv (.s 8))⟩,
    ⟨none, (some 45), .inl (.ld true 7 (.s 11))⟩,
    ⟨none, (some 46), .inl (.mv (.s 12))⟩,
    ⟨none, (some 47), .inr (.fn 92 [(.s 45), (.s 46)])⟩,
    ⟨none, (some 48), .inl (.app 3 1 8 (.s 44) (.s 47))⟩,
    ⟨none, (some 8), .inl (.mv (.s 48))⟩])))))
  (.region [⟨none, (some 49), .inl (.bin .add (.s 23) (.c (.int .i64 1)))⟩,
    ⟨none, (some 23), .inl (.mv (.s 49))⟩])))
/-- gyttja/sheet.Read -/
def k48 : Cd :=
  .seq (.region [⟨none, (some 4), .inl (.mv (.c (.slice none 0 0)))⟩,
    ⟨none, (some 5), .inl (.mv (.c (.int .i64 0)))⟩])
  (.seq (.region [⟨none, (some 14), .inl (.mv (.s 0))⟩,
    ⟨none, (some 15), .inr (.fn 67 [(.s 14)])⟩,
    ⟨none, (some 13), .inl (.mv (.s 15))⟩,
    ⟨none, (some 16), .inl (.ex (.s 13) 0)⟩,
    ⟨none, (some 17), .inl (.ex (.s 13) 1)⟩,
    ⟨none, (some 6), .inl (.mv (.s 16))⟩,
    ⟨none, (some 7), .inl (.mv (.s 17))⟩])
  (.seq (.seq (.region [⟨none, (some 18), .inl (.mv (.s 7))⟩,
    ⟨none, (some 19), .inl (.bin .neq (.s 18) (.c (.int .i64 0)))⟩])
  (.cond (.s 19) (.seq (.region [⟨none, (some 20), .inl (.mv (.s 7))⟩,
     ⟨none, (some 4), .inl (.mv (.c (.slice none 0 0)))⟩,
     ⟨none, (some 5), .inl (.mv (.s 20))⟩])
   (.ret))
  (.skip)))
  (.seq (.region [⟨none, (some 8), .inl (.mv (.c (.slice none 0 0)))⟩])
  (.seq (.region [⟨none, (some 9), .inl (.mv (.c (.int .i64 0)))⟩])
  (.seq (.seq (.region [⟨none, (some 21), .inl (.mv (.s 6))⟩,
    ⟨none, (some 22), .inl (.len (.s 21))⟩,
    ⟨none, (some 23), .inl (.mv (.c (.int .i64 0)))⟩])
  (.block 0 (.loop k48l0)))
  (.seq (.region [⟨none, (some 50), .inl (.mv (.s 8))⟩,
    ⟨none, (some 4), .inl (.mv (.s 50))⟩,
    ⟨none, (some 5), .inl (.mv (.c (.int .i64 0)))⟩])
  (.ret)))))))
def k49l0 : Cd :=
  .seq (.seq (.region [⟨none, (some 92), .inl (.mv (.s 15))⟩,
    ⟨none, (some 93), .inl (.ld true 3 (.s 12))⟩,
    ⟨none, (some 94), .inr (.fn 79 [(.s 93)])⟩,
    ⟨none, (some 95), .inl (.mv (.s 14))⟩,
    ⟨none, (some 96), .inl (.bin .add (.s 94) (.s 95))⟩,
    ⟨none, (some 97), .inl (.bin .lss (.s 92) (.s 96))⟩])
  (.cond (.s 97) (.skip)
  (.exit 3)))
  (.seq (.block 4 (.region [⟨none, (some 100), .inl (.mv (.s 9))⟩,
    ⟨none, (some 101), .inl (.bs 3 1 1 [(.int .i64 0)] [(0, (.c (.int .i64 0)))])⟩,
    ⟨none, (some 102), .inl (.app 3 1 8 (.s 100) (.s 101))⟩,
    ⟨none, (some 9), .inl (.mv (.s 102))⟩]))
  (.region [⟨none, (some 98), .inl (.mv (.s 15))⟩,
    ⟨none, (some 99), .inl (.bin .add (.s 98) (.c (.int .i64 1)))⟩,
    ⟨none, (some 15), .inl (.mv (.s 99))⟩]))
def k49l1 : Cd :=
  .seq (.seq (.region [⟨none, (some 25), .inl (.mv (.s 11))⟩,
    ⟨none, (some 26), .inl (.mv (.s 0))⟩,
    ⟨none, (some 27), .inl (.len (.s 26))⟩,
    ⟨none, (some 28), .inl (.bin .lss (.s 25) (.s 27))⟩])
  (.cond (.s 28) (.skip)
  (.exit 0)))
  (.seq (.block 1 (.seq (.region [⟨none, (some 31), .inl (.mv (.s 0))⟩,
    ⟨none, (some 32), .inl (.mv (.s 11))⟩,
    ⟨none, (some 33), .inl (.ias 3 (.s 31) (.s 32))⟩,
    ⟨none, (some 34), .inl (.ld true 3 (.s 33))⟩,
    ⟨none, (some 12), .inl (.alloc 23 [(.int .i64 0), (.int .i64 0), (.int .i64 0)])⟩,
    ⟨none, none, .inl (.st 3 (.s 12) (.s 34))⟩])
  (.seq (.draw [⟨⟨none, (some 35), .inl (.ld true 3 (.s 12))⟩, (some []), [], 0, false⟩,
    ⟨⟨none, (some 36), .inr (.fn 80 [(.s 35)])⟩, (some []), [], 1, false⟩,
    ⟨⟨none, (some 37), .inl (.ld true 3 (.s 12))⟩, (some []), [], 0, false⟩,
    ⟨⟨none, (some 38), .inr (.fn 79 [(.s 37)])⟩, (some []), [], 7, false⟩,
    ⟨⟨none, (some 39), .inl (.bin .sub (.s 36) (.s 38))⟩, (some []), [], 15, false⟩,
    ⟨⟨none, (some 40), .inl (.bin .add (.s 39) (.c (.int .i64 1)))⟩, (some []), [], 31, false⟩,
    ⟨⟨none, (some 13), .inl (.mv (.s 40))⟩, (some []), [], 63, false⟩])
  (.seq (.region [⟨none, (some 14), .inl (.mv (.c (.int .i64 0)))⟩])
  (.seq (.seq (.region [⟨none, (some 41), .inl (.fa (.s 12) 0)⟩,
    ⟨none, (some 42), .inl (.ld false 1 (.s 41))⟩,
    ⟨none, (some 43), .inl (.bin .eql (.s 42) (.c (.int .i64 3)))⟩,
    ⟨none, (some 44), .inl (.mv (.s 43))⟩,
    ⟨(some (44, false)), (some 45), .inl (.fa (.s 12) 0)⟩,
    ⟨(some (44, false)), (some 46), .inl (.ld false 1 (.s 45))⟩,
    ⟨(some (44, false)), (some 47), .inl (.bin .eql (.s 46) (.c (.int .i64 4)))⟩,
    ⟨none, (some 48), .inl (.pick (.s 44) (.c (.bool true)) (.s 47))⟩,
    ⟨none, (some 49), .inl (.mv (.s 48))⟩,
    ⟨(some (49, false)), (some 50), .inl (.fa (.s 12) 0)⟩,
    ⟨(some (49, false)), (some 51), .inl (.ld false 1 (.s 50))⟩,
    ⟨(some (49, false)), (some 52), .inl (.bin .eql (.s 51) (.c (.int .i64 6)))⟩,
    ⟨none, (some 53), .inl (.pick (.s 49) (.c (.bool true)) (.s 52))⟩])
  (.cond (.s 53) (.seq (.region [⟨none, (some 54), .inl (.mv (.s 1))⟩,
     ⟨none, (some 55), .inl (.mv (.s 10))⟩,
     ⟨none, (some 56), .inr (.fn 93 [(.s 54), (.s 55)])⟩,
     ⟨none, (some 57), .inl (.mv (.s 13))⟩,
     ⟨none, (some 58), .inr (.fn 54 [(.s 56), (.s 57)])⟩,
     ⟨none, (some 14), .inl (.mv (.s 58))⟩])
   (.region [⟨none, (some 59), .inl (.mv (.s 10))⟩,
     ⟨none, (some 60), .inl (.bin .add (.s 59) (.c (.int .i64 1)))⟩,
     ⟨none, (some 10), .inl (.mv (.s 60))⟩]))
  (.skip)))
  (.seq (.region [⟨none, (some 61), .inl (.fa (.s 12) 0)⟩,
    ⟨none, (some 62), .inl (.ld false 1 (.s 61))⟩])
  (.block 2 (.seq (.region [⟨none, (some 64), .inl (.bin .eql (.s 62) (.c (.int .i64 2)))⟩,
    ⟨none, (some 63), .inl (.mv (.s 64))⟩])
  (.cond (.s 63) (.region [⟨none, (some 65), .inl (.mv (.s 9))⟩,
     ⟨none, (some 66), .inl (.fa (.s 12) 1)⟩,
     ⟨none, (some 67), .inl (.ld false 1 (.s 66))⟩,
     ⟨none, (some 68), .inl (.bs 3 1 1 [(.int .i64 0)] [(0, (.s 67))])⟩,
     ⟨none, (some 69), .inl (.app 3 1 8 (.s 65) (.s 68))⟩,
     ⟨none, (some 9), .inl (.mv (.s 69))⟩])
  (.seq (.region [⟨none, (some 71), .inl (.bin .eql (.s 62) (.c (.int .i64 3)))⟩,
     ⟨none, (some 70), .inl (.mv (.s 71))⟩])
   (.cond (.s 70) (.seq (.region [⟨none, (some 72), .inl (.mv (.s 14))⟩,
      ⟨none, (some 73), .inl (.bin .eql (.s 72) (.c (.int .i64 0)))⟩])
    (.cond (.s 73) (.region [⟨none, (some 74), .inl (.mv (.s 9))⟩,
       ⟨none, (some 75), .inl (.fa (.s 12) 1)⟩,
       ⟨none, (some 76), .inl (.ld false 1 (.s 75))⟩,
       ⟨none, (some 77), .inl (.fa (.s 12) 2)⟩,
       ⟨none, (some 78), .inl (.ld false 1 (.s 77))⟩,
       ⟨none, (some 79), .inl (.bin .add (.s 76) (.s 78))⟩,
       ⟨none, (some 80), .inl (.bs 3 1 1 [(.int .i64 0)] [(0, (.s 79))])⟩,
       ⟨none, (some 81), .inl (.app 3 1 8 (.s 74) (.s 80))⟩,
       ⟨none, (some 9), .inl (.mv (.s 81))⟩])
    (.region [⟨none, (some 82), .inl (.mv (.s 9))⟩,
       ⟨none, (some 83), .inl (.fa (.s 12) 1)⟩,
       ⟨none, (some 84), .inl (.ld false 1 (.s 83))⟩,
       ⟨none, (some 85), .inl (.fa (.s 12) 2)⟩,
       ⟨none, (some 86), .inl (.ld false 1 (.s 85))⟩,
       ⟨none, (some 87), .inl (.bs 3 1 2 [(.int .i64 0)] [(0, (.s 84)), (1, (.s 86))])⟩,
       ⟨none, (some 88), .inl (.app 3 1 8 (.s 82) (.s 87))⟩,
       ⟨none, (some 9), .inl (.mv (.s 88))⟩])))
   (.seq (.seq (.region [⟨none, (some 90), .inl (.bin .eql (.s 62) (.c (.int .i64 4)))⟩,
      ⟨none, (some 89), .inl (.mv (.s 90))⟩])
    (.cond (.s 89) (.skip)
    (.region [⟨none, (some 91), .inl (.bin .eql (.s 62) (.c (.int .i64 6)))⟩,
       ⟨none, (some 89), .inl (.mv (.s 91))⟩])))
    (.cond (.s 89) (.seq (.region [⟨none, (some 15), .inl (.mv (.c (.int .i64 0)))⟩])
     (.block 3 (.loop k49l0)))
    (.skip))))))))))))))
  (.region [⟨none, (some 29), .inl (.mv (.s 11))⟩,
    ⟨none, (some 30), .inl (.bin .add (.s 29) (.c (.int .i64 1)))⟩,
    ⟨none, (some 11), .inl (.mv (.s 30))⟩]))
/-- gyttja/gyttjaref01.Read -/
def k49 : Cd :=
  .seq (.region [⟨none, (some 4), .inl (.mv (.c (.slice none 0 0)))⟩,
    ⟨none, (some 5), .inl (.mv (.c (.int .i64 0)))⟩])
  (.seq (.region [⟨none, (some 17), .inl (.mv (.s 0))⟩,
    ⟨none, (some 18), .inr (.fn 33 [(.s 17)])⟩,
    ⟨none, (some 16), .inl (.mv (.s 18))⟩,
    ⟨none, (some 19), .inl (.ex (.s 16) 0)⟩,
    ⟨none, (some 20), .inl (.ex (.s 16) 1)⟩,
    ⟨none, (some 21), .inl (.ex (.s 16) 2)⟩,
    ⟨none, (some 6), .inl (.mv (.s 19))⟩,
    ⟨none, (some 7), .inl (.mv (.s 20))⟩,
    ⟨none, (some 8), .inl (.mv (.s 21))⟩])
  (.seq (.seq (.region [⟨none, (some 22), .inl (.mv (.s 8))⟩,
    ⟨none, (some 23), .inl (.bin .neq (.s 22) (.c (.int .i64 0)))⟩])
  (.cond (.s 23) (.seq (.region [⟨none, (some 24), .inl (.mv (.s 8))⟩,
     ⟨none, (some 4), .inl (.mv (.c (.slice none 0 0)))⟩,
     ⟨none, (some 5), .inl (.mv (.s 24))⟩])
   (.ret))
  (.skip)))
  (.seq (.region [⟨none, (some 9), .inl (.mv (.c (.slice none 0 0)))⟩])
  (.seq (.region [⟨none, (some 10), .inl (.mv (.c (.int .i64 0)))⟩])
  (.seq (.seq (.region [⟨none, (some 11), .inl (.mv (.c (.int .i64 0)))⟩])
  (.block 0 (.loop k49l1)))
  (.seq (.region [⟨none, (some 103), .inl (.mv (.s 9))⟩,
    ⟨none, (some 4), .inl (.mv (.s 103))⟩,
    ⟨none, (some 5), .inl (.mv (.c (.int .i64 0)))⟩])
  (.ret)))))))
def k50l0 : Cd :=
  .seq (.region [⟨none, (some 20), .inl (.bin .lss (.s 19) (.s 18))⟩])
  (.seq (.cond (.s 20) (.skip)
  (.exit 0))
  (.seq (.block 1 (.seq (.region [⟨none, (some 21), .inl (.ias 7 (.s 17) (.s 19))⟩,
    ⟨none, (some 22), .inl (.ld true 7 (.s 21))⟩,
    ⟨none, (some 8), .inl (.alloc 82 [(.bool false), (.int .i64 0), (.int .i64 0), (.slice none 0 0), (.int .i64 0), (.bool false), (.bool false)])⟩,
    ⟨none, none, .inl (.st 7 (.s 8) (.s 22))⟩])
  (.region [⟨none, (some 23), .inl (.mv (.s 6))⟩,
    ⟨none, (some 24), .inl (.fa (.s 8) 3)⟩,
    ⟨none, (some 25), .inl (.ld false 1 (.s 24))⟩,
    ⟨none, (some 26), .inl (.app 3 1 8 (.s 23) (.s 25))⟩,
    ⟨none, (some 6), .inl (.mv (.s 26))⟩])))
  (.region [⟨none, (some 27), .inl (.bin .add (.s 19) (.c (.int .i64 1)))⟩,
    ⟨none, (some 19), .inl (.mv (.s 27))⟩])))
/-- gyttja/sheet.Thick -/
def k50 : Cd :=
  .seq (.region [⟨none, (some 2), .inl (.mv (.c (.slice none 0 0)))⟩,
    ⟨none, (some 3), .inl (.mv (.c (.int .i64 0)))⟩])
  (.seq (.region [⟨none, (some 10), .inl (.mv (.s 0))⟩,
    ⟨none, (some 11), .inr (.fn 81 [(.s 10)])⟩,
    ⟨none, (some 9), .inl (.mv (.s 11))⟩,
    ⟨none, (some 12), .inl (.ex (.s 9) 0)⟩,
    ⟨none, (some 13), .inl (.ex (.s 9) 1)⟩,
    ⟨none, (some 4), .inl (.mv (.s 12))⟩,
    ⟨none, (some 5), .inl (.mv (.s 13))⟩])
  (.seq (.seq (.region [⟨none, (some 14), .inl (.mv (.s 5))⟩,
    ⟨none, (some 15), .inl (.bin .neq (.s 14) (.c (.int .i64 0)))⟩])
  (.cond (.s 15) (.seq (.region [⟨none, (some 16), .inl (.mv (.s 5))⟩,
     ⟨none, (some 2), .inl (.mv (.c (.slice none 0 0)))⟩,
     ⟨none, (some 3), .inl (.mv (.s 16))⟩])
   (.ret))
  (.skip)))
  (.seq (.region [⟨none, (some 6), .inl (.mv (.c (.slice none 0 0)))⟩])
  (.seq (.seq (.region [⟨none, (some 17), .inl (.mv (.s 4))⟩,
    ⟨none, (some 18), .inl (.len (.s 17))⟩,
    ⟨none, (some 19), .inl (.mv (.c (.int .i64 0)))⟩])
  (.block 0 (.loop k50l0)))
  (.seq (.region [⟨none, (some 28), .inl (.mv (.s 6))⟩,
    ⟨none, (some 2), .inl (.mv (.s 28))⟩,
    ⟨none, (some 3), .inl (.mv (.c (.int .i64 0)))⟩])
  (.ret))))))
def k51l0 : Cd :=
  .seq (.seq (.region [⟨none, (some 16), .inl (.mv (.s 7))⟩,
    ⟨none, (some 17), .inl (.mv (.s 0))⟩,
    ⟨none, (some 18), .inl (.len (.s 17))⟩,
    ⟨none, (some 19), .inl (.bin .lss (.s 16) (.s 18))⟩])
  (.cond (.s 19) (.skip)
  (.exit 0)))
  (.seq (.block 1 (.seq (.region [⟨none, (some 22), .inl (.mv (.s 0))⟩,
    ⟨none, (some 23), .inl (.mv (.s 7))⟩,
    ⟨none, (some 24), .inl (.ias 3 (.s 22) (.s 23))⟩,
    ⟨none, (some 25), .inl (.fa (.s 24) 0)⟩,
    ⟨none, (some 26), .inl (.ld false 1 (.s 25))⟩])
  (.block 2 (.seq (.region [⟨none, (some 28), .inl (.bin .eql (.s 26) (.c (.int .i64 2)))⟩,
    ⟨none, (some 27), .inl (.mv (.s 28))⟩])
  (.cond (.s 27) (.region [⟨none, (some 29), .inl (.mv (.s 6))⟩,
     ⟨none, (some 30), .inl (.mv (.s 0))⟩,
     ⟨none, (some 31), .inl (.mv (.s 7))⟩,
     ⟨none, (some 32), .inl (.ias 3 (.s 30) (.s 31))⟩,
     ⟨none, (some 33), .inl (.fa (.s 32) 1)⟩,
     ⟨none, (some 34), .inl (.ld false 1 (.s 33))⟩,
     ⟨none, (some 35), .inl (.bs 3 1 1 [(.int .i64 0)] [(0, (.s 34))])⟩,
     ⟨none, (some 36), .inl (.app 3 1 8 (.s 29) (.s 35))⟩,
     ⟨none, (some 6), .inl (.mv (.s 36))⟩])
  (.seq (.region [⟨none, (some 38), .inl (.bin .eql (.s 26) (.c (.int .i64 3)))⟩,
     ⟨none, (some 37), .inl (.mv (.s 38))⟩])
   (.cond (.s 37) (.draw [⟨⟨none, (some 39), .inl (.mv (.s 6))⟩, (some []), [], 0, false⟩,
      ⟨⟨none, (some 40), .inl (.mv (.s 0))⟩, (some []), [], 0, false⟩,
      ⟨⟨none, (some 41), .inl (.mv (.s 7))⟩, (some []), [], 0, false⟩,
      ⟨⟨none, (some 42), .inl (.ias 3 (.s 40) (.s 41))⟩, (some []), [], 6, false⟩,
      ⟨⟨none, (some 43), .inl (.fa (.s 42) 1)⟩, (some []), [], 14, false⟩,
      ⟨⟨none, (some 44), .inl (.ld false 1 (.s 43))⟩, (some []), [], 30, false⟩,
      ⟨⟨none, (some 45), .inl (.mv (.s 0))⟩, (some []), [], 0, false⟩,
      ⟨⟨none, (some 46), .inl (.mv (.s 7))⟩, (some []), [], 0, false⟩,
      ⟨⟨none, (some 47), .inl (.ias 3 (.s 45) (.s 46))⟩, (some []), [], 192, false⟩,
      ⟨⟨none, (some 48), .inl (.fa (.s 47) 2)⟩, (some []), [], 448, false⟩,
      ⟨⟨none, (some 49), .inl (.ld false 1 (.s 48))⟩, (some []), [], 960, false⟩,
      ⟨⟨none, (some 50), .inl (.bs 3 1 2 [(.int .i64 0)] [(0, (.s 44)), (1, (.s 49))])⟩, (some [.fr 50]), [], 2046, false⟩,
      ⟨⟨none, (some 51), .inl (.app 3 1 8 (.s 39) (.s 50))⟩, (some [.fr 51, .at 6]), [], 4095, false⟩,
      ⟨⟨none, (some 6), .inl (.mv (.s 51))⟩, (some []), [], 8191, false⟩])
   (.skip))))))))
  (.region [⟨none, (some 20), .inl (.mv (.s 7))⟩,
    ⟨none, (some 21), .inl (.bin .add (.s 20) (.c (.int .i64 1)))⟩,
    ⟨none, (some 7), .inl (.mv (.s 21))⟩]))
/-- gyttja/gyttjaref01.Thick -/
def k51 : Cd :=
  .seq (.region [⟨none, (some 2), .inl (.mv (.c (.slice none 0 0)))⟩,
    ⟨none, (some 3), .inl (.mv (.c (.int .i64 0)))⟩])
  (.seq (.region [⟨none, (some 9), .inl (.mv (.s 0))⟩,
    ⟨none, (some 10), .inr (.fn 35 [(.s 9)])⟩,
    ⟨none, (some 8), .inl (.mv (.s 10))⟩,
    ⟨none, (some 11), .inl (.ex (.s 8) 0)⟩,
    ⟨none, (some 12), .inl (.ex (.s 8) 1)⟩,
    ⟨none, (some 4), .inl (.mv (.s 11))⟩,
    ⟨none, (some 5), .inl (.mv (.s 12))⟩])
  (.seq (.seq (.region [⟨none, (some 13), .inl (.mv (.s 5))⟩,
    ⟨none, (some 14), .inl (.bin .neq (.s 13) (.c (.int .i64 0)))⟩])
  (.cond (.s 14) (.seq (.region [⟨none, (some 15), .inl (.mv (.s 5))⟩,
     ⟨none, (some 2), .inl (.mv (.c (.slice none 0 0)))⟩,
     ⟨none, (some 3), .inl (.mv (.s 15))⟩])
   (.ret))
  (.skip)))
  (.seq (.region [⟨none, (some 6), .inl (.mv (.c (.slice none 0 0)))⟩])
  (.seq (.seq (.region [⟨none, (some 7), .inl (.mv (.c (.int .i64 0)))⟩])
  (.block 0 (.loop k51l0)))
  (.seq (.region [⟨none, (some 52), .inl (.mv (.s 6))⟩,
    ⟨none, (some 2), .inl (.mv (.s 52))⟩,
    ⟨none, (some 3), .inl (.mv (.c (.int .i64 0)))⟩])
  (.ret))))))
/-- gyttja/gyttjalaw01.cut -/
def k52 : Cd :=
  .seq (.region [⟨none, (some 2), .inl (.mv (.c (.slice none 0 0)))⟩])
  (.seq (.region [⟨none, (some 3), .inl (.mv (.s 0))⟩,
    ⟨none, (some 4), .inl (.mv (.s 0))⟩,
    ⟨none, (some 5), .inl (.len (.s 4))⟩,
    ⟨none, (some 6), .inl (.mm false (.s 5) (.c (.int .i64 60)))⟩,
    ⟨none, (some 7), .inl (.slc 3 (.s 3) none (some (.s 6)) none)⟩,
    ⟨none, (some 2), .inl (.mv (.s 7))⟩])
  (.ret))
def k53l0 : Cd :=
  .seq (.seq (.region [⟨none, (some 56), .inl (.mv (.s 13))⟩,
    ⟨none, (some 57), .inl (.fa (.s 11) 2)⟩,
    ⟨none, (some 58), .inl (.ld false 1 (.s 57))⟩,
    ⟨none, (some 59), .inl (.bin .leq (.s 56) (.s 58))⟩])
  (.cond (.s 59) (.skip)
  (.exit 2)))
  (.seq (.block 3 (.seq (.region [⟨none, (some 62), .inl (.ld true 7 (.s 11))⟩,
    ⟨none, (some 63), .inl (.mv (.s 13))⟩,
    ⟨none, (some 64), .inr (.fn 92 [(.s 62), (.s 63)])⟩,
    ⟨none, (some 14), .inl (.mv (.s 64))⟩])
  (.seq (.region [⟨none, (some 65), .inl (.mv (.s 7))⟩,
    ⟨none, (some 66), .inl (.mv (.s 14))⟩,
    ⟨none, (some 67), .inr (.fn 95 [(.s 65), (.s 66)])⟩])
  (.cond (.s 67) (.seq (.region [⟨none, (some 68), .inl (.mv (.s 7))⟩,
     ⟨none, (some 69), .inl (.mv (.s 14))⟩,
     ⟨none, (some 70), .inl (.len (.s 69))⟩,
     ⟨none, (some 71), .inl (.slc 1 (.s 68) (some (.s 70)) none none)⟩,
     ⟨none, (some 7), .inl (.mv (.s 71))⟩])
   (.exit 1))
  (.skip)))))
  (.region [⟨none, (some 60), .inl (.mv (.s 13))⟩,
    ⟨none, (some 61), .inl (.bin .add (.s 60) (.c (.int .i64 1)))⟩,
    ⟨none, (some 13), .inl (.mv (.s 61))⟩]))
def k53l1 : Cd :=
  .seq (.region [⟨none, (some 27), .inl (.bin .lss (.s 26) (.s 25))⟩])
  (.seq (.cond (.s 27) (.skip)
  (.exit 0))
  (.seq (.block 1 (.seq (.region [⟨none, (some 28), .inl (.ias 7 (.s 24) (.s 26))⟩,
    ⟨none, (some 29), .inl (.ld true 7 (.s 28))⟩,
    ⟨none, (some 11), .inl (.alloc 82 [(.bool false), (.int .i64 0), (.int .i64 0), (.slice none 0 0), (.int .i64 0), (.bool false), (.bool false)])⟩,
    ⟨none, none, .inl (.st 7 (.s 11) (.s 29))⟩])
  (.seq (.seq (.region [⟨none, (some 30), .inl (.fa (.s 11) 5)⟩,
    ⟨none, (some 31), .inl (.ld false 1 (.s 30))⟩])
  (.cond (.s 31) (.seq (.region [⟨none, (some 32), .inl (.mv (.s 8))⟩,
     ⟨none, (some 33), .inl (.fa (.s 11) 1)⟩,
     ⟨none, (some 34), .inl (.ld false 1 (.s 33))⟩,
     ⟨none, (some 35), .inl (.bin .add (.s 32) (.s 34))⟩,
     ⟨none, (some 8), .inl (.mv (.s 35))⟩])
   (.seq (.region [⟨none, (some 36), .inl (.mv (.s 9))⟩,
     ⟨none, (some 37), .inl (.fa (.s 11) 2)⟩,
     ⟨none, (some 38), .inl (.ld false 1 (.s 37))⟩,
     ⟨none, (some 39), .inl (.bin .add (.s 36) (.s 38))⟩,
     ⟨none, (some 9), .inl (.mv (.s 39))⟩])
   (.exit 1)))
  (.skip)))
  (.seq (.seq (.region [⟨none, (some 40), .inl (.fa (.s 11) 3)⟩,
    ⟨none, (some 41), .inl (.ld false 1 (.s 40))⟩,
    ⟨none, (some 42), .inl (.len (.s 41))⟩,
    ⟨none, (some 43), .inl (.bin .eql (.s 42) (.c (.int .i64 0)))⟩])
  (.cond (.s 43) (.exit 1)
  (.skip)))
  (.seq (.region [⟨none, (some 44), .inl (.mv (.s 7))⟩,
    ⟨none, (some 45), .inr (.fn 94 [(.s 44)])⟩,
    ⟨none, (some 12), .inl (.mv (.s 45))⟩])
  (.seq (.seq (.region [⟨none, (some 46), .inl (.mv (.s 12))⟩,
    ⟨none, (some 47), .inl (.mv (.s 8))⟩,
    ⟨none, (some 48), .inl (.mv (.s 9))⟩,
    ⟨none, (some 49), .inr (.fn 63 [(.s 46), (.s 47), (.s 48)])⟩,
    ⟨none, (some 50), .inl (.not (.s 49))⟩])
  (.cond (.s 50) (.seq (.region [⟨none, (some 4), .inl (.mv (.c (.bool false)))⟩])
   (.ret))
  (.skip)))
  (.seq (.region [⟨none, (some 51), .inl (.mv (.s 7))⟩,
    ⟨none, (some 52), .inl (.mv (.s 12))⟩,
    ⟨none, (some 53), .inl (.slc 1 (.s 51) (some (.s 52)) none none)⟩,
    ⟨none, (some 7), .inl (.mv (.s 53))⟩,
    ⟨none, (some 8), .inl (.mv (.c (.int .i64 0)))⟩,
    ⟨none, (some 9), .inl (.mv (.c (.int .i64 0)))⟩])
  (.seq (.seq (.region [⟨none, (some 54), .inl (.fa (.s 11) 1)⟩,
    ⟨none, (some 55), .inl (.ld false 1 (.s 54))⟩,
    ⟨none, (some 13), .inl (.mv (.s 55))⟩])
  (.block 2 (.loop k53l0)))
  (.seq (.region [⟨none, (some 4), .inl (.mv (.c (.bool false)))⟩])
  (.ret))))))))))
  (.region [⟨none, (some 72), .inl (.bin .add (.s 26) (.c (.int .i64 1)))⟩,
    ⟨none, (some 26), .inl (.mv (.s 72))⟩])))
/-- gyttja/sheet.IsReading -/
def k53 : Cd :=
  .seq (.region [⟨none, (some 4), .inl (.mv (.c (.bool false)))⟩])
  (.scope (.seq (.region [⟨none, (some 17), .inl (.mv (.s 0))⟩,
    ⟨none, (some 18), .inr (.fn 67 [(.s 17)])⟩,
    ⟨none, (some 16), .inl (.mv (.s 18))⟩,
    ⟨none, (some 19), .inl (.ex (.s 16) 0)⟩,
    ⟨none, (some 20), .inl (.ex (.s 16) 1)⟩,
    ⟨none, (some 5), .inl (.mv (.s 19))⟩,
    ⟨none, (some 6), .inl (.mv (.s 20))⟩])
  (.seq (.seq (.region [⟨none, (some 21), .inl (.mv (.s 6))⟩,
    ⟨none, (some 22), .inl (.bin .neq (.s 21) (.c (.int .i64 0)))⟩])
  (.cond (.s 22) (.seq (.region [⟨none, (some 4), .inl (.mv (.c (.bool false)))⟩])
   (.ret))
  (.skip)))
  (.seq (.region [⟨none, (some 23), .inl (.mv (.s 1))⟩,
    ⟨none, (some 7), .inl (.mv (.s 23))⟩])
  (.seq (.region [⟨none, (some 8), .inl (.mv (.c (.int .i64 0)))⟩,
    ⟨none, (some 9), .inl (.mv (.c (.int .i64 0)))⟩])
  (.seq (.skip)
  (.seq (.seq (.region [⟨none, (some 24), .inl (.mv (.s 5))⟩,
    ⟨none, (some 25), .inl (.len (.s 24))⟩,
    ⟨none, (some 26), .inl (.mv (.c (.int .i64 0)))⟩])
  (.block 0 (.loop k53l1)))
  (.seq (.region [⟨none, (some 73), .inl (.mv (.s 7))⟩,
    ⟨none, (some 74), .inr (.fn 94 [(.s 73)])⟩,
    ⟨none, (some 15), .inl (.mv (.s 74))⟩])
  (.seq (.region [⟨none, (some 75), .inl (.mv (.s 15))⟩,
    ⟨none, (some 76), .inl (.mv (.s 7))⟩,
    ⟨none, (some 77), .inl (.len (.s 76))⟩,
    ⟨none, (some 78), .inl (.bin .eql (.s 75) (.s 77))⟩,
    ⟨none, (some 79), .inl (.mv (.s 78))⟩,
    ⟨(some (79, true)), (some 80), .inl (.mv (.s 15))⟩,
    ⟨(some (79, true)), (some 81), .inl (.mv (.s 8))⟩,
    ⟨(some (79, true)), (some 82), .inl (.mv (.s 9))⟩,
    ⟨(some (79, true)), (some 83), .inr (.fn 63 [(.s 80), (.s 81), (.s 82)])⟩,
    ⟨none, (some 84), .inl (.pick (.s 79) (.s 83) (.c (.bool false)))⟩,
    ⟨none, (some 4), .inl (.mv (.s 84))⟩])
  (.ret))))))))))
/-- gyttja/gyttjaref01.Mod -/
def k54 : Cd :=
  .seq (.region [⟨none, (some 4), .inl (.mv (.c (.int .i64 0)))⟩])
  (.seq (.region [⟨none, (some 5), .inl (.mv (.s 0))⟩,
    ⟨none, (some 6), .inl (.mv (.s 1))⟩,
    ⟨none, (some 7), .inl (.bin .rem (.s 5) (.s 6))⟩,
    ⟨none, (some 8), .inl (.mv (.s 1))⟩,
    ⟨none, (some 9), .inl (.bin .add (.s 7) (.s 8))⟩,
    ⟨none, (some 10), .inl (.mv (.s 1))⟩,
    ⟨none, (some 11), .inl (.bin .rem (.s 9) (.s 10))⟩,
    ⟨none, (some 4), .inl (.mv (.s 11))⟩])
  (.ret))
def k55l0 : Cd :=
  .seq (.seq (.region [⟨none, (some 30), .inl (.mv (.s 9))⟩,
    ⟨none, (some 31), .inl (.mv (.s 0))⟩,
    ⟨none, (some 32), .inl (.len (.s 31))⟩,
    ⟨none, (some 33), .inl (.bin .lss (.s 30) (.s 32))⟩])
  (.cond (.s 33) (.skip)
  (.exit 0)))
  (.seq (.block 1 (.seq (.seq (.region [⟨none, (some 36), .inl (.mv (.s 0))⟩,
    ⟨none, (some 37), .inl (.mv (.s 9))⟩,
    ⟨none, (some 38), .inl (.ias 3 (.s 36) (.s 37))⟩,
    ⟨none, (some 39), .inl (.ld true 3 (.s 38))⟩,
    ⟨none, (some 40), .inr (.fn 80 [(.s 39)])⟩,
    ⟨none, (some 41), .inl (.bin .eql (.s 40) (.c (.int .i64 0)))⟩])
  (.cond (.s 41) (.exit 1)
  (.skip)))
  (.region [⟨none, (some 42), .inl (.mv (.s 8))⟩,
    ⟨none, (some 43), .inl (.mv (.s 0))⟩,
    ⟨none, (some 44), .inl (.mv (.s 9))⟩,
    ⟨none, (some 45), .inl (.ias 3 (.s 43) (.s 44))⟩,
    ⟨none, (some 46), .inl (.ld true 3 (.s 45))⟩,
    ⟨none, (some 47), .inl (.mv (.s 1))⟩,
    ⟨none, (some 48), .inr (.fn 96 [(.s 42), (.s 46), (.s 47)])⟩,
    ⟨none, (some 8), .inl (.mv (.s 48))⟩])))
  (.region [⟨none, (some 34), .inl (.mv (.s 9))⟩,
    ⟨none, (some 35), .inl (.bin .add (.s 34) (.c (.int .i64 1)))⟩,
    ⟨none, (some 9), .inl (.mv (.s 35))⟩]))
/-- gyttja/gyttjaref01.IsReading -/
def k55 : Cd :=
  .seq (.region [⟨none, (some 4), .inl (.mv (.c (.bool false)))⟩])
  (.seq (.region [⟨none, (some 11), .inl (.mv (.s 0))⟩,
    ⟨none, (some 12), .inr (.fn 33 [(.s 11)])⟩,
    ⟨none, (some 10), .inl (.mv (.s 12))⟩,
    ⟨none, (some 13), .inl (.ex (.s 10) 0)⟩,
    ⟨none, (some 14), .inl (.ex (.s 10) 1)⟩,
    ⟨none, (some 15), .inl (.ex (.s 10) 2)⟩,
    ⟨none, (some 5), .inl (.mv (.s 13))⟩,
    ⟨none, (some 6), .inl (.mv (.s 14))⟩,
    ⟨none, (some 7), .inl (.mv (.s 15))⟩])
  (.seq (.seq (.region [⟨none, (some 16), .inl (.mv (.s 7))⟩,
    ⟨none, (some 17), .inl (.bin .neq (.s 16) (.c (.int .i64 0)))⟩,
    ⟨none, (some 18), .inl (.mv (.s 17))⟩,
    ⟨(some (18, false)), (some 19), .inl (.mv (.s 1))⟩,
    ⟨(some (18, false)), (some 20), .inl (.len (.s 19))⟩,
    ⟨(some (18, false)), (some 21), .inl (.mv (.s 6))⟩,
    ⟨(some (18, false)), (some 22), .inl (.bin .gtr (.s 20) (.s 21))⟩,
    ⟨none, (some 23), .inl (.pick (.s 18) (.c (.bool true)) (.s 22))⟩])
  (.cond (.s 23) (.seq (.region [⟨none, (some 4), .inl (.mv (.c (.bool false)))⟩])
   (.ret))
  (.skip)))
  (.seq (.region [⟨none, (some 24), .inl (.mv (.s 1))⟩,
    ⟨none, (some 25), .inl (.len (.s 24))⟩,
    ⟨none, (some 26), .inl (.bin .add (.s 25) (.c (.int .i64 1)))⟩,
    ⟨none, (some 27), .inl (.mks 4 1 1 [(.bool false)] (.s 26) (.s 26))⟩,
    ⟨none, (some 8), .inl (.mv (.s 27))⟩])
  (.seq (.region [⟨none, (some 28), .inl (.mv (.s 8))⟩,
    ⟨none, (some 29), .inl (.ias 1 (.s 28) (.c (.int .i64 0)))⟩,
    ⟨none, none, .inl (.st 1 (.s 29) (.c (.bool true)))⟩])
  (.seq (.seq (.region [⟨none, (some 9), .inl (.mv (.c (.int .i64 0)))⟩])
  (.block 0 (.loop k55l0)))
  (.seq (.region [⟨none, (some 49), .inl (.mv (.s 8))⟩,
    ⟨none, (some 50), .inl (.mv (.s 1))⟩,
    ⟨none, (some 51), .inl (.len (.s 50))⟩,
    ⟨none, (some 52), .inl (.ias 1 (.s 49) (.s 51))⟩,
    ⟨none, (some 53), .inl (.ld false 1 (.s 52))⟩,
    ⟨none, (some 4), .inl (.mv (.s 53))⟩])
  (.ret)))))))
/-- gyttja/gyttjalaw01.example -/
def k61 : Cd :=
  .seq (.region [⟨none, (some 0), .inl (.alloc 26 [(.int .i64 0), (.int .i64 0), (.int .i64 0), (.slice none 0 0)])⟩])
  (.seq (.region [⟨none, (some 1), .inl (.bld [(.int .i64 0), (.int .i64 0), (.int .i64 0)] [(0, 1, (.c (.int .i64 1))), (1, 1, (.c (.int .i64 5)))])⟩,
    ⟨none, (some 2), .inl (.bld [(.int .i64 0), (.int .i64 0), (.int .i64 0)] [(0, 1, (.c (.int .i64 2))), (1, 1, (.c (.int .i64 120)))])⟩,
    ⟨none, (some 3), .inl (.bld [(.int .i64 0), (.int .i64 0), (.int .i64 0)] [(0, 1, (.c (.int .i64 3))), (1, 1, (.c (.int .i64 80))), (2, 1, (.c (.int .i64 95)))])⟩,
    ⟨none, (some 4), .inl (.bld [(.int .i64 0), (.int .i64 0), (.int .i64 0)] [(0, 1, (.c (.int .i64 1))), (1, 1, (.c (.int .i64 6)))])⟩,
    ⟨none, (some 5), .inl (.bld [(.int .i64 0), (.int .i64 0), (.int .i64 0)] [(0, 1, (.c (.int .i64 4))), (1, 1, (.c (.int .i64 2)))])⟩,
    ⟨none, (some 6), .inl (.bld [(.int .i64 0), (.int .i64 0), (.int .i64 0)] [(0, 1, (.c (.int .i64 5))), (1, 1, (.c (.int .i64 300)))])⟩,
    ⟨none, (some 7), .inl (.bld [(.int .i64 0), (.int .i64 0), (.int .i64 0)] [(0, 1, (.c (.int .i64 6))), (1, 1, (.c (.int .i64 1))), (2, 1, (.c (.int .i64 3)))])⟩,
    ⟨none, (some 8), .inl (.bld [(.int .i64 0), (.int .i64 0), (.int .i64 0)] [(0, 1, (.c (.int .i64 1))), (1, 1, (.c (.int .i64 9)))])⟩,
    ⟨none, (some 9), .inl (.bs 23 3 8 [(.int .i64 0), (.int .i64 0), (.int .i64 0)] [(0, (.s 1)), (1, (.s 2)), (2, (.s 3)), (3, (.s 4)), (4, (.s 5)), (5, (.s 6)), (6, (.s 7)), (7, (.s 8))])⟩,
    ⟨none, (some 10), .inl (.bld [(.int .i64 0), (.int .i64 0), (.int .i64 0), (.slice none 0 0)] [(0, 1, (.c (.int .i64 7))), (1, 1, (.c (.int .i64 3))), (2, 1, (.c (.int .i64 2))), (3, 1, (.s 9))])⟩,
    ⟨none, none, .inl (.st 4 (.s 0) (.s 10))⟩])
  (.ret))
/-- gyttja/sheet.rowsBelow -/
def k62 : Cd :=
  .seq (.region [⟨none, (some 1), .inl (.box 26 4 (.s 0))⟩,
    ⟨none, (some 2), .inl (.mv (.c .nilFunc))⟩])
  (.seq (.region [⟨none, (some 3), .inl (.mkf (.func 101) [] [(.s 1)])⟩,
    ⟨none, (some 2), .inl (.mv (.s 3))⟩])
  (.ret))
/-- gyttja/sheet.within -/
def k63 : Cd :=
  .seq (.region [⟨none, (some 6), .inl (.mv (.c (.bool false)))⟩])
  (.seq (.region [⟨none, (some 7), .inl (.mv (.s 1))⟩,
    ⟨none, (some 8), .inl (.mv (.s 0))⟩,
    ⟨none, (some 9), .inl (.bin .leq (.s 7) (.s 8))⟩,
    ⟨none, (some 10), .inl (.mv (.s 9))⟩,
    ⟨(some (10, true)), (some 11), .inl (.mv (.s 0))⟩,
    ⟨(some (10, true)), (some 12), .inl (.mv (.s 2))⟩,
    ⟨(some (10, true)), (some 13), .inl (.bin .leq (.s 11) (.s 12))⟩,
    ⟨none, (some 14), .inl (.pick (.s 10) (.s 13) (.c (.bool false)))⟩,
    ⟨none, (some 6), .inl (.mv (.s 14))⟩])
  (.ret))
/-- gyttja/gyttjaref01.In -/
def k64 : Cd :=
  .seq (.region [⟨none, (some 6), .inl (.mv (.c (.bool false)))⟩])
  (.seq (.region [⟨none, (some 7), .inl (.mv (.s 0))⟩,
    ⟨none, (some 8), .inl (.mv (.s 1))⟩,
    ⟨none, (some 9), .inl (.bin .geq (.s 7) (.s 8))⟩,
    ⟨none, (some 10), .inl (.mv (.s 9))⟩,
    ⟨(some (10, true)), (some 11), .inl (.mv (.s 0))⟩,
    ⟨(some (10, true)), (some 12), .inl (.mv (.s 2))⟩,
    ⟨(some (10, true)), (some 13), .inl (.bin .leq (.s 11) (.s 12))⟩,
    ⟨none, (some 14), .inl (.pick (.s 10) (.s 13) (.c (.bool false)))⟩,
    ⟨none, (some 6), .inl (.mv (.s 14))⟩])
  (.ret))
/-- gyttja/sheet.natureOf -/
def k65 : Cd :=
  .seq (.region [⟨none, (some 3), .inl (.box 23 3 (.s 1))⟩,
    ⟨none, (some 4), .inl (.alloc 82 [(.bool false), (.int .i64 0), (.int .i64 0), (.slice none 0 0), (.int .i64 0), (.bool false), (.bool false)])⟩])
  (.seq (.region [⟨none, (some 8), .inl (.mv (.s 0))⟩,
    ⟨none, (some 9), .inl (.fa (.s 3) 0)⟩,
    ⟨none, (some 10), .inl (.ld false 1 (.s 9))⟩,
    ⟨none, (some 11), .inl (.lk .int .nilFunc true (.s 8) (.s 10))⟩,
    ⟨none, (some 7), .inl (.mv (.s 11))⟩,
    ⟨none, (some 12), .inl (.ex (.s 7) 0)⟩,
    ⟨none, (some 13), .inl (.ex (.s 7) 1)⟩,
    ⟨none, (some 5), .inl (.mv (.s 12))⟩,
    ⟨none, (some 6), .inl (.mv (.s 13))⟩])
  (.seq (.seq (.region [⟨none, (some 14), .inl (.mv (.s 6))⟩,
    ⟨none, (some 15), .inl (.not (.s 14))⟩])
  (.cond (.s 15) (.seq (.region [⟨none, (some 16), .inl (.bld [(.bool false), (.int .i64 0), (.int .i64 0), (.slice none 0 0), (.int .i64 0), (.bool false), (.bool false)] [])⟩,
     ⟨none, none, .inl (.st 7 (.s 4) (.s 16))⟩])
   (.ret))
  (.skip)))
  (.seq (.region [⟨none, (some 17), .inl (.mv (.s 5))⟩,
    ⟨none, (some 18), .inl (.ld true 3 (.s 3))⟩,
    ⟨none, (some 19), .inr (.val (.s 17) [(.s 18)])⟩,
    ⟨none, none, .inl (.st 7 (.s 4) (.s 19))⟩])
  (.ret))))
/-- gyttja/sheet.kinds -/
def k66 : Cd :=
  .seq (.region [⟨none, (some 0), .inl (.mv (.c (.map none)))⟩])
  (.seq (.region [⟨none, (some 1), .inl (.mkm)⟩,
    ⟨none, none, .inl (.upd .int (.s 1) (.c (.int .i64 1)) (.f 102))⟩,
    ⟨none, none, .inl (.upd .int (.s 1) (.c (.int .i64 2)) (.f 103))⟩,
    ⟨none, none, .inl (.upd .int (.s 1) (.c (.int .i64 3)) (.f 105))⟩,
    ⟨none, none, .inl (.upd .int (.s 1) (.c (.int .i64 4)) (.f 106))⟩,
    ⟨none, none, .inl (.upd .int (.s 1) (.c (.int .i64 5)) (.f 107))⟩,
    ⟨none, none, .inl (.upd .int (.s 1) (.c (.int .i64 6)) (.f 108))⟩,
    ⟨none, (some 2), .inl (.mv (.s 1))⟩,
    ⟨none, (some 0), .inl (.mv (.s 2))⟩])
  (.ret))
def k67l0 : Cd :=
  .seq (.region [⟨none, (some 20), .inl (.bin .lss (.s 19) (.s 18))⟩])
  (.seq (.cond (.s 20) (.skip)
  (.exit 0))
  (.seq (.block 1 (.seq (.region [⟨none, (some 21), .inl (.ias 3 (.s 17) (.s 19))⟩,
    ⟨none, (some 22), .inl (.ld true 3 (.s 21))⟩,
    ⟨none, (some 8), .inl (.alloc 23 [(.int .i64 0), (.int .i64 0), (.int .i64 0)])⟩,
    ⟨none, none, .inl (.st 3 (.s 8) (.s 22))⟩])
  (.seq (.region [⟨none, (some 23), .inl (.mv (.s 4))⟩,
    ⟨none, (some 24), .inl (.ld true 3 (.s 8))⟩,
    ⟨none, (some 25), .inr (.fn 65 [(.s 23), (.s 24)])⟩,
    ⟨none, (some 9), .inl (.alloc 82 [(.bool false), (.int .i64 0), (.int .i64 0), (.slice none 0 0), (.int .i64 0), (.bool false), (.bool false)])⟩,
    ⟨none, none, .inl (.st 7 (.s 9) (.s 25))⟩])
  (.seq (.seq (.region [⟨none, (some 26), .inl (.fa (.s 9) 0)⟩,
    ⟨none, (some 27), .inl (.ld false 1 (.s 26))⟩,
    ⟨none, (some 28), .inl (.not (.s 27))⟩])
  (.cond (.s 28) (.seq (.region [⟨none, (some 2), .inl (.mv (.c (.slice none 0 0)))⟩,
     ⟨none, (some 3), .inl (.mv (.c (.int .i64 10)))⟩])
   (.ret))
  (.skip)))
  (.seq (.region [⟨none, (some 29), .inl (.mv (.s 6))⟩,
    ⟨none, (some 30), .inl (.fa (.s 9) 2)⟩,
    ⟨none, (some 31), .inl (.ld false 1 (.s 30))⟩,
    ⟨none, (some 32), .inl (.bin .add (.s 29) (.s 31))⟩,
    ⟨none, (some 6), .inl (.mv (.s 32))⟩])
  (.region [⟨none, (some 33), .inl (.mv (.s 5))⟩,
    ⟨none, (some 34), .inl (.ld true 7 (.s 9))⟩,
    ⟨none, (some 35), .inl (.bs 82 7 1 [(.bool false), (.int .i64 0), (.int .i64 0), (.slice none 0 0), (.int .i64 0), (.bool false), (.bool false)] [(0, (.s 34))])⟩,
    ⟨none, (some 36), .inl (.app 82 7 64 (.s 33) (.s 35))⟩,
    ⟨none, (some 5), .inl (.mv (.s 36))⟩]))))))
  (.region [⟨none, (some 37), .inl (.bin .add (.s 19) (.c (.int .i64 1)))⟩,
    ⟨none, (some 19), .inl (.mv (.s 37))⟩])))
/-- gyttja/sheet.natures -/
def k67 : Cd :=
  .seq (.region [⟨none, (some 2), .inl (.mv (.c (.slice none 0 0)))⟩,
    ⟨none, (some 3), .inl (.mv (.c (.int .i64 0)))⟩])
  (.seq (.seq (.region [⟨none, (some 10), .inl (.mv (.s 0))⟩,
    ⟨none, (some 11), .inl (.len (.s 10))⟩,
    ⟨none, (some 12), .inl (.bin .gtr (.s 11) (.c (.int .i64 400)))⟩])
  (.cond (.s 12) (.seq (.region [⟨none, (some 2), .inl (.mv (.c (.slice none 0 0)))⟩,
     ⟨none, (some 3), .inl (.mv (.c (.int .i64 2)))⟩])
   (.ret))
  (.skip)))
  (.seq (.region [⟨none, (some 13), .inr (.fn 66 [])⟩,
    ⟨none, (some 4), .inl (.mv (.s 13))⟩])
  (.seq (.region [⟨none, (some 14), .inl (.mv (.s 0))⟩,
    ⟨none, (some 15), .inl (.len (.s 14))⟩,
    ⟨none, (some 16), .inl (.mks 82 7 64 [(.bool false), (.int .i64 0), (.int .i64 0), (.slice none 0 0), (.int .i64 0), (.bool false), (.bool false)] (.c (.int .i64 0)) (.s 15))⟩,
    ⟨none, (some 5), .inl (.mv (.s 16))⟩])
  (.seq (.region [⟨none, (some 6), .inl (.mv (.c (.int .i64 0)))⟩])
  (.seq (.seq (.region [⟨none, (some 17), .inl (.mv (.s 0))⟩,
    ⟨none, (some 18), .inl (.len (.s 17))⟩,
    ⟨none, (some 19), .inl (.mv (.c (.int .i64 0)))⟩])
  (.block 0 (.loop k67l0)))
  (.seq (.seq (.region [⟨none, (some 38), .inl (.mv (.s 6))⟩,
    ⟨none, (some 39), .inl (.bin .gtr (.s 38) (.c (.int .i64 100000)))⟩])
  (.cond (.s 39) (.seq (.region [⟨none, (some 2), .inl (.mv (.c (.slice none 0 0)))⟩,
     ⟨none, (some 3), .inl (.mv (.c (.int .i64 2)))⟩])
   (.ret))
  (.skip)))
  (.seq (.region [⟨none, (some 40), .inl (.mv (.s 5))⟩,
    ⟨none, (some 2), .inl (.mv (.s 40))⟩,
    ⟨none, (some 3), .inl (.mv (.c (.int .i64 0)))⟩])
  (.ret))))))))
/-- gyttja/sheet.Parse$1 -/
def k68 : Cd :=
  .seq (.region [⟨none, (some 6), .inr (.rcv)⟩,
    ⟨none, (some 7), .inl (.ta 89 (.int .i64 0) (.s 6))⟩,
    ⟨none, (some 5), .inl (.mv (.s 7))⟩,
    ⟨none, (some 8), .inl (.ex (.s 5) 0)⟩,
    ⟨none, (some 9), .inl (.ex (.s 5) 1)⟩,
    ⟨none, (some 3), .inl (.mv (.s 8))⟩,
    ⟨none, (some 4), .inl (.mv (.s 9))⟩])
  (.seq (.region [⟨none, (some 10), .inl (.mv (.s 4))⟩])
  (.cond (.s 10) (.region [⟨none, (some 11), .inl (.bld [(.int .i64 0), (.int .i64 0), (.int .i64 0), (.slice none 0 0)] [])⟩,
     ⟨none, (some 12), .inl (.mv (.s 3))⟩,
     ⟨none, none, .inl (.st 4 (.s 0) (.s 11))⟩,
     ⟨none, none, .inl (.st 1 (.s 1) (.s 12))⟩,
     ⟨none, none, .inl (.st 1 (.s 2) (.c (.int .i64 12)))⟩])
  (.skip)))
def k69l0 : Cd :=
  .region [⟨none, (some 6), .inl (.mv (.s 10))⟩]
def k69l1 : Cd :=
  .block 1 (.seq (.region [⟨none, (some 11), .inl (.ld false 1 (.s 4))⟩,
    ⟨none, (some 12), .inl (.bin .add (.s 11) (.c (.int .i64 1)))⟩,
    ⟨none, none, .inl (.st 1 (.s 4) (.s 12))⟩])
  (.seq (.region [⟨none, (some 13), .inl (.mv (.s 6))⟩,
    ⟨none, (some 14), .inr (.fn 111 [(.s 13), (.c (.string ⟨#[10]⟩))])⟩,
    ⟨none, (some 15), .inr (.fn 110 [(.s 14)])⟩,
    ⟨none, (some 7), .inl (.mv (.s 15))⟩])
  (.seq (.seq (.region [⟨none, (some 16), .inl (.mv (.s 7))⟩,
    ⟨none, (some 17), .inl (.len (.s 16))⟩,
    ⟨none, (some 18), .inl (.bin .eql (.s 17) (.c (.int .i64 0)))⟩,
    ⟨none, (some 19), .inl (.mv (.s 18))⟩,
    ⟨(some (19, false)), (some 20), .inl (.mv (.s 6))⟩,
    ⟨(some (19, false)), (some 21), .inl (.ixs (.s 20) (.c (.int .i64 0)))⟩,
    ⟨(some (19, false)), (some 22), .inl (.bin .eql (.s 21) (.c (.int .u8 35)))⟩,
    ⟨none, (some 23), .inl (.pick (.s 19) (.c (.bool true)) (.s 22))⟩])
  (.cond (.s 23) (.exit 1)
  (.skip)))
  (.seq (.region [⟨none, (some 24), .inl (.ld false 1 (.s 5))⟩])
  (.cond (.s 24) (.draw [⟨⟨none, (some 25), .inl (.fa (.s 3) 3)⟩, (some []), [], 0, false⟩,
     ⟨⟨none, (some 26), .inl (.ld false 1 (.s 25))⟩, (some []), [.fr 30], 1, false⟩,
     ⟨⟨none, (some 27), .inl (.ld false 1 (.s 4))⟩, (some []), [], 0, false⟩,
     ⟨⟨none, (some 28), .inl (.mv (.s 7))⟩, (some []), [], 0, false⟩,
     ⟨⟨none, (some 29), .inr (.fn 112 [(.s 27), (.s 28)])⟩, (some []), [], 12, false⟩,
     ⟨⟨none, (some 30), .inl (.bs 23 3 1 [(.int .i64 0), (.int .i64 0), (.int .i64 0)] [(0, (.s 29))])⟩, (some [.fr 30]), [], 28, false⟩,
     ⟨⟨none, (some 31), .inl (.app 23 3 24 (.s 26) (.s 30))⟩, (some [.fr 31, .at 26]), [], 63, false⟩,
     ⟨⟨none, (some 32), .inl (.fa (.s 3) 3)⟩, (some []), [], 127, false⟩,
     ⟨⟨none, none, .inl (.st 1 (.s 32) (.s 31))⟩, (some [.at 3]), [], 255, false⟩])
  (.region [⟨none, (some 33), .inl (.ld false 1 (.s 4))⟩,
     ⟨none, (some 34), .inl (.mv (.s 7))⟩,
     ⟨none, (some 35), .inr (.fn 113 [(.s 33), (.s 34)])⟩,
     ⟨none, none, .inl (.st 4 (.s 3) (.s 35))⟩,
     ⟨none, none, .inl (.st 1 (.s 5) (.c (.bool true)))⟩]))))))
/-- gyttja/sheet.parseLines -/
def k69 : Cd :=
  .seq (.region [⟨none, (some 2), .inl (.alloc 26 [(.int .i64 0), (.int .i64 0), (.int .i64 0), (.slice none 0 0)])⟩])
  (.seq (.region [⟨none, (some 3), .inl (.alloc 26 [(.int .i64 0), (.int .i64 0), (.int .i64 0), (.slice none 0 0)])⟩])
  (.seq (.region [⟨none, (some 4), .inl (.alloc 3 [(.int .i64 0)])⟩,
    ⟨none, (some 5), .inl (.alloc 4 [(.bool false)])⟩,
    ⟨none, none, .inl (.st 1 (.s 4) (.c (.int .i64 0)))⟩,
    ⟨none, none, .inl (.st 1 (.s 5) (.c (.bool false)))⟩])
  (.seq (.seq (.region [⟨none, (some 8), .inl (.mv (.s 0))⟩,
    ⟨none, (some 9), .inr (.fn 109 [(.s 8)])⟩])
  (.block 0 (.rangeF (.s 9) [10] k69l0 k69l1)))
  (.seq (.seq (.region [⟨none, (some 36), .inl (.ld false 1 (.s 5))⟩,
    ⟨none, (some 37), .inl (.not (.s 36))⟩])
  (.cond (.s 37) (.region [⟨none, (some 38), .inl (.ld false 1 (.s 4))⟩,
     ⟨none, (some 39), .inl (.bin .add (.s 38) (.c (.int .i64 1)))⟩,
     ⟨none, (some 40), .inl (.mki 89 (.s 39))⟩,
     ⟨none, none, .inr (.pan (.s 40))⟩])
  (.skip)))
  (.seq (.region [⟨none, (some 41), .inl (.ld true 4 (.s 3))⟩,
    ⟨none, none, .inl (.st 4 (.s 2) (.s 41))⟩])
  (.ret))))))
def k70l0 : Cd :=
  .seq (.seq (.region [⟨none, (some 6), .inl (.mv (.s 5))⟩,
    ⟨none, (some 7), .inl (.mv (.s 0))⟩,
    ⟨none, (some 8), .inl (.lens (.s 7))⟩,
    ⟨none, (some 9), .inl (.bin .lss (.s 6) (.s 8))⟩])
  (.cond (.s 9) (.skip)
  (.exit 0)))
  (.seq (.block 1 (.seq (.region [⟨none, (some 12), .inl (.mv (.s 0))⟩,
    ⟨none, (some 13), .inl (.mv (.s 5))⟩,
    ⟨none, (some 14), .inl (.ixs (.s 12) (.s 13))⟩,
    ⟨none, (some 15), .inl (.bin .eql (.s 14) (.c (.int .u8 10)))⟩])
  (.cond (.s 15) (.seq (.region [⟨none, (some 16), .inl (.mv (.s 3))⟩,
     ⟨none, (some 17), .inl (.mv (.s 0))⟩,
     ⟨none, (some 18), .inl (.mv (.s 4))⟩,
     ⟨none, (some 19), .inl (.mv (.s 5))⟩,
     ⟨none, (some 20), .inl (.sls (.s 17) (some (.s 18)) (some (.s 19)))⟩,
     ⟨none, (some 21), .inl (.bs 9 1 1 [(.string ⟨#[]⟩)] [(0, (.s 20))])⟩,
     ⟨none, (some 22), .inl (.app 9 1 16 (.s 16) (.s 21))⟩,
     ⟨none, (some 3), .inl (.mv (.s 22))⟩])
   (.region [⟨none, (some 23), .inl (.mv (.s 5))⟩,
     ⟨none, (some 24), .inl (.bin .add (.s 23) (.c (.int .i64 1)))⟩,
     ⟨none, (some 4), .inl (.mv (.s 24))⟩]))
  (.skip))))
  (.region [⟨none, (some 10), .inl (.mv (.s 5))⟩,
    ⟨none, (some 11), .inl (.bin .add (.s 10) (.c (.int .i64 1)))⟩,
    ⟨none, (some 5), .inl (.mv (.s 11))⟩]))
/-- gyttja/gyttjaref01.Lines -/
def k70 : Cd :=
  .seq (.region [⟨none, (some 2), .inl (.mv (.c (.slice none 0 0)))⟩])
  (.seq (.region [⟨none, (some 3), .inl (.mv (.c (.slice none 0 0)))⟩])
  (.seq (.region [⟨none, (some 4), .inl (.mv (.c (.int .i64 0)))⟩])
  (.seq (.seq (.region [⟨none, (some 5), .inl (.mv (.c (.int .i64 0)))⟩])
  (.block 0 (.loop k70l0)))
  (.seq (.seq (.region [⟨none, (some 25), .inl (.mv (.s 4))⟩,
    ⟨none, (some 26), .inl (.mv (.s 0))⟩,
    ⟨none, (some 27), .inl (.lens (.s 26))⟩,
    ⟨none, (some 28), .inl (.bin .lss (.s 25) (.s 27))⟩])
  (.cond (.s 28) (.region [⟨none, (some 29), .inl (.mv (.s 3))⟩,
     ⟨none, (some 30), .inl (.mv (.s 0))⟩,
     ⟨none, (some 31), .inl (.mv (.s 4))⟩,
     ⟨none, (some 32), .inl (.sls (.s 30) (some (.s 31)) none)⟩,
     ⟨none, (some 33), .inl (.bs 9 1 1 [(.string ⟨#[]⟩)] [(0, (.s 32))])⟩,
     ⟨none, (some 34), .inl (.app 9 1 16 (.s 29) (.s 33))⟩,
     ⟨none, (some 3), .inl (.mv (.s 34))⟩])
  (.skip)))
  (.seq (.region [⟨none, (some 35), .inl (.mv (.s 3))⟩,
    ⟨none, (some 2), .inl (.mv (.s 35))⟩])
  (.ret))))))
def k71l0 : Cd :=
  .seq (.seq (.region [⟨none, (some 17), .inl (.mv (.s 5))⟩,
    ⟨none, (some 18), .inl (.mv (.s 0))⟩,
    ⟨none, (some 19), .inl (.lens (.s 18))⟩,
    ⟨none, (some 20), .inl (.bin .lss (.s 17) (.s 19))⟩,
    ⟨none, (some 21), .inl (.mv (.s 20))⟩,
    ⟨(some (21, true)), (some 22), .inl (.mv (.s 0))⟩,
    ⟨(some (21, true)), (some 23), .inl (.mv (.s 5))⟩,
    ⟨(some (21, true)), (some 24), .inl (.ixs (.s 22) (.s 23))⟩,
    ⟨(some (21, true)), (some 25), .inl (.bin .neq (.s 24) (.c (.int .u8 32)))⟩,
    ⟨none, (some 26), .inl (.pick (.s 21) (.s 25) (.c (.bool false)))⟩])
  (.cond (.s 26) (.skip)
  (.exit 2)))
  (.block 3 (.region [⟨none, (some 27), .inl (.mv (.s 5))⟩,
    ⟨none, (some 28), .inl (.bin .add (.s 27) (.c (.int .i64 1)))⟩,
    ⟨none, (some 5), .inl (.mv (.s 28))⟩]))
def k71l1 : Cd :=
  .seq (.seq (.region [⟨none, (some 6), .inl (.mv (.s 4))⟩,
    ⟨none, (some 7), .inl (.mv (.s 0))⟩,
    ⟨none, (some 8), .inl (.lens (.s 7))⟩,
    ⟨none, (some 9), .inl (.bin .lss (.s 6) (.s 8))⟩])
  (.cond (.s 9) (.skip)
  (.exit 0)))
  (.block 1 (.seq (.seq (.region [⟨none, (some 10), .inl (.mv (.s 0))⟩,
    ⟨none, (some 11), .inl (.mv (.s 4))⟩,
    ⟨none, (some 12), .inl (.ixs (.s 10) (.s 11))⟩,
    ⟨none, (some 13), .inl (.bin .eql (.s 12) (.c (.int .u8 32)))⟩])
  (.cond (.s 13) (.seq (.region [⟨none, (some 14), .inl (.mv (.s 4))⟩,
     ⟨none, (some 15), .inl (.bin .add (.s 14) (.c (.int .i64 1)))⟩,
     ⟨none, (some 4), .inl (.mv (.s 15))⟩])
   (.exit 1))
  (.skip)))
  (.seq (.region [⟨none, (some 16), .inl (.mv (.s 4))⟩,
    ⟨none, (some 5), .inl (.mv (.s 16))⟩])
  (.seq (.block 2 (.loop k71l0))
  (.seq (.region [⟨none, (some 29), .inl (.mv (.s 3))⟩,
    ⟨none, (some 30), .inl (.mv (.s 0))⟩,
    ⟨none, (some 31), .inl (.mv (.s 4))⟩,
    ⟨none, (some 32), .inl (.mv (.s 5))⟩,
    ⟨none, (some 33), .inl (.sls (.s 30) (some (.s 31)) (some (.s 32)))⟩,
    ⟨none, (some 34), .inl (.bs 9 1 1 [(.string ⟨#[]⟩)] [(0, (.s 33))])⟩,
    ⟨none, (some 35), .inl (.app 9 1 16 (.s 29) (.s 34))⟩,
    ⟨none, (some 3), .inl (.mv (.s 35))⟩])
  (.region [⟨none, (some 36), .inl (.mv (.s 5))⟩,
    ⟨none, (some 4), .inl (.mv (.s 36))⟩]))))))
/-- gyttja/gyttjaref01.Words -/
def k71 : Cd :=
  .seq (.region [⟨none, (some 2), .inl (.mv (.c (.slice none 0 0)))⟩])
  (.seq (.region [⟨none, (some 3), .inl (.mv (.c (.slice none 0 0)))⟩])
  (.seq (.region [⟨none, (some 4), .inl (.mv (.c (.int .i64 0)))⟩])
  (.seq (.block 0 (.loop k71l1))
  (.seq (.region [⟨none, (some 37), .inl (.mv (.s 3))⟩,
    ⟨none, (some 2), .inl (.mv (.s 37))⟩])
  (.ret)))))
def k72l0 : Cd :=
  .seq (.seq (.region [⟨none, (some 8), .inl (.mv (.s 4))⟩,
    ⟨none, (some 9), .inl (.bin .leq (.s 8) (.c (.int .i64 6)))⟩])
  (.cond (.s 9) (.skip)
  (.exit 0)))
  (.seq (.block 1 (.seq (.region [⟨none, (some 13), .inl (.mv (.s 4))⟩,
    ⟨none, (some 14), .inr (.fn 78 [(.s 13)])⟩,
    ⟨none, (some 12), .inl (.mv (.s 14))⟩,
    ⟨none, (some 15), .inl (.ex (.s 12) 0)⟩,
    ⟨none, (some 16), .inl (.ex (.s 12) 1)⟩,
    ⟨none, (some 5), .inl (.mv (.s 15))⟩,
    ⟨none, (some 6), .inl (.mv (.s 16))⟩])
  (.seq (.seq (.region [⟨none, (some 17), .inl (.mv (.s 0))⟩,
    ⟨none, (some 18), .inl (.ias 1 (.s 17) (.c (.int .i64 0)))⟩,
    ⟨none, (some 19), .inl (.ld false 1 (.s 18))⟩,
    ⟨none, (some 20), .inl (.mv (.s 5))⟩,
    ⟨none, (some 21), .inl (.bin .neq (.s 19) (.s 20))⟩,
    ⟨none, (some 22), .inl (.mv (.s 21))⟩,
    ⟨(some (22, false)), (some 23), .inl (.mv (.s 0))⟩,
    ⟨(some (22, false)), (some 24), .inl (.len (.s 23))⟩,
    ⟨(some (22, false)), (some 25), .inl (.mv (.s 6))⟩,
    ⟨(some (22, false)), (some 26), .inl (.bin .add (.s 25) (.c (.int .i64 1)))⟩,
    ⟨(some (22, false)), (some 27), .inl (.bin .neq (.s 24) (.s 26))⟩,
    ⟨none, (some 28), .inl (.pick (.s 22) (.c (.bool true)) (.s 27))⟩])
  (.cond (.s 28) (.exit 1)
  (.skip)))
  (.seq (.region [⟨none, (some 29), .inl (.mv (.s 4))⟩,
    ⟨none, (some 30), .inl (.mv (.s 0))⟩,
    ⟨none, (some 31), .inl (.ias 1 (.s 30) (.c (.int .i64 1)))⟩,
    ⟨none, (some 32), .inl (.ld false 1 (.s 31))⟩,
    ⟨none, (some 33), .inr (.fn 114 [(.s 32), (.c (.int .i64 6))])⟩,
    ⟨none, (some 34), .inl (.bld [(.int .i64 0), (.int .i64 0), (.int .i64 0)] [(0, 1, (.s 29)), (1, 1, (.s 33))])⟩,
    ⟨none, (some 7), .inl (.alloc 23 [(.int .i64 0), (.int .i64 0), (.int .i64 0)])⟩,
    ⟨none, none, .inl (.st 3 (.s 7) (.s 34))⟩])
  (.seq (.seq (.region [⟨none, (some 35), .inl (.mv (.s 6))⟩,
    ⟨none, (some 36), .inl (.bin .eql (.s 35) (.c (.int .i64 2)))⟩])
  (.cond (.s 36) (.region [⟨none, (some 37), .inl (.mv (.s 0))⟩,
     ⟨none, (some 38), .inl (.ias 1 (.s 37) (.c (.int .i64 2)))⟩,
     ⟨none, (some 39), .inl (.ld false 1 (.s 38))⟩,
     ⟨none, (some 40), .inr (.fn 114 [(.s 39), (.c (.int .i64 6))])⟩,
     ⟨none, (some 41), .inl (.fa (.s 7) 2)⟩,
     ⟨none, none, .inl (.st 1 (.s 41) (.s 40))⟩])
  (.skip)))
  (.seq (.draw [⟨⟨none, (some 42), .inl (.ld true 3 (.s 7))⟩, (some []), [], 0, false⟩,
    ⟨⟨none, (some 43), .inl (.fa (.s 7) 1)⟩, (some []), [], 0, false⟩,
    ⟨⟨none, (some 44), .inl (.ld false 1 (.s 43))⟩, (some []), [], 2, false⟩,
    ⟨⟨none, (some 45), .inl (.bin .geq (.s 44) (.c (.int .i64 0)))⟩, (some []), [], 6, false⟩,
    ⟨⟨none, (some 46), .inl (.mv (.s 45))⟩, (some []), [], 14, false⟩,
    ⟨⟨(some (46, true)), (some 47), .inl (.fa (.s 7) 2)⟩, (some []), [], 30, false⟩,
    ⟨⟨(some (46, true)), (some 48), .inl (.ld false 1 (.s 47))⟩, (some []), [.at 2], 62, false⟩,
    ⟨⟨(some (46, true)), (some 49), .inl (.bin .geq (.s 48) (.c (.int .i64 0)))⟩, (some []), [], 126, false⟩,
    ⟨⟨none, (some 50), .inl (.pick (.s 46) (.s 49) (.c (.bool false)))⟩, (some []), [], 254, false⟩,
    ⟨⟨none, none, .inl (.st 3 (.s 2) (.s 42))⟩, (some [.at 2]), [], 31, false⟩,
    ⟨⟨none, (some 3), .inl (.mv (.s 50))⟩, (some []), [], 1023, false⟩])
  (.ret)))))))
  (.region [⟨none, (some 10), .inl (.mv (.s 4))⟩,
    ⟨none, (some 11), .inl (.bin .add (.s 10) (.c (.int .i64 1)))⟩,
    ⟨none, (some 4), .inl (.mv (.s 11))⟩]))
/-- gyttja/gyttjaref01.row -/
def k72 : Cd :=
  .seq (.region [⟨none, (some 2), .inl (.alloc 23 [(.int .i64 0), (.int .i64 0), (.int .i64 0)])⟩,
    ⟨none, (some 3), .inl (.mv (.c (.bool false)))⟩])
  (.seq (.seq (.region [⟨none, (some 4), .inl (.mv (.c (.int .i64 1)))⟩])
  (.block 0 (.loop k72l0)))
  (.seq (.region [⟨none, (some 51), .inl (.bld [(.int .i64 0), (.int .i64 0), (.int .i64 0)] [])⟩,
    ⟨none, none, .inl (.st 3 (.s 2) (.s 51))⟩,
    ⟨none, (some 3), .inl (.mv (.c (.bool false)))⟩])
  (.ret)))
/-- gyttja/gyttjaref01.head -/
def k73 : Cd :=
  .seq (.region [⟨none, (some 2), .inl (.alloc 26 [(.int .i64 0), (.int .i64 0), (.int .i64 0), (.slice none 0 0)])⟩,
    ⟨none, (some 3), .inl (.mv (.c (.bool false)))⟩])
  (.seq (.seq (.region [⟨none, (some 5), .inl (.mv (.s 0))⟩,
    ⟨none, (some 6), .inl (.len (.s 5))⟩,
    ⟨none, (some 7), .inl (.bin .neq (.s 6) (.c (.int .i64 6)))⟩,
    ⟨none, (some 8), .inl (.mv (.s 7))⟩,
    ⟨(some (8, false)), (some 9), .inl (.mv (.s 0))⟩,
    ⟨(some (8, false)), (some 10), .inl (.ias 1 (.s 9) (.c (.int .i64 0)))⟩,
    ⟨(some (8, false)), (some 11), .inl (.ld false 1 (.s 10))⟩,
    ⟨(some (8, false)), (some 12), .inl (.bin .neq (.s 11) (.c (.string ⟨#[115, 104, 101, 101, 116]⟩)))⟩,
    ⟨none, (some 13), .inl (.pick (.s 8) (.c (.bool true)) (.s 12))⟩,
    ⟨none, (some 14), .inl (.mv (.s 13))⟩,
    ⟨(some (14, false)), (some 15), .inl (.mv (.s 0))⟩,
    ⟨(some (14, false)), (some 16), .inl (.ias 1 (.s 15) (.c (.int .i64 2)))⟩,
    ⟨(some (14, false)), (some 17), .inl (.ld false 1 (.s 16))⟩,
    ⟨(some (14, false)), (some 18), .inl (.bin .neq (.s 17) (.c (.string ⟨#[114, 101, 97, 100, 101, 114]⟩)))⟩,
    ⟨none, (some 19), .inl (.pick (.s 14) (.c (.bool true)) (.s 18))⟩,
    ⟨none, (some 20), .inl (.mv (.s 19))⟩,
    ⟨(some (20, false)), (some 21), .inl (.mv (.s 0))⟩,
    ⟨(some (20, false)), (some 22), .inl (.ias 1 (.s 21) (.c (.int .i64 4)))⟩,
    ⟨(some (20, false)), (some 23), .inl (.ld false 1 (.s 22))⟩,
    ⟨(some (20, false)), (some 24), .inl (.bin .neq (.s 23) (.c (.string ⟨#[99, 111, 114, 101]⟩)))⟩,
    ⟨none, (some 25), .inl (.pick (.s 20) (.c (.bool true)) (.s 24))⟩])
  (.cond (.s 25) (.seq (.region [⟨none, (some 26), .inl (.bld [(.int .i64 0), (.int .i64 0), (.int .i64 0), (.slice none 0 0)] [])⟩,
     ⟨none, none, .inl (.st 4 (.s 2) (.s 26))⟩,
     ⟨none, (some 3), .inl (.mv (.c (.bool false)))⟩])
   (.ret))
  (.skip)))
  (.seq (.draw [⟨⟨none, (some 27), .inl (.mv (.s 0))⟩, (some []), [], 0, false⟩,
    ⟨⟨none, (some 28), .inl (.ias 1 (.s 27) (.c (.int .i64 1)))⟩, (some []), [], 1, false⟩,
    ⟨⟨none, (some 29), .inl (.ld false 1 (.s 28))⟩, (some []), [.fr 4], 3, false⟩,
    ⟨⟨none, (some 30), .inr (.fn 114 [(.s 29), (.c (.int .i64 6))])⟩, (some []), [.fr 4], 7, false⟩,
    ⟨⟨none, (some 31), .inl (.mv (.s 0))⟩, (some []), [], 0, false⟩,
    ⟨⟨none, (some 32), .inl (.ias 1 (.s 31) (.c (.int .i64 3)))⟩, (some []), [], 16, false⟩,
    ⟨⟨none, (some 33), .inl (.ld false 1 (.s 32))⟩, (some []), [.fr 4], 48, false⟩,
    ⟨⟨none, (some 34), .inr (.fn 114 [(.s 33), (.c (.int .i64 6))])⟩, (some []), [.fr 4], 127, false⟩,
    ⟨⟨none, (some 35), .inl (.mv (.s 0))⟩, (some []), [], 0, false⟩,
    ⟨⟨none, (some 36), .inl (.ias 1 (.s 35) (.c (.int .i64 5)))⟩, (some []), [], 256, false⟩,
    ⟨⟨none, (some 37), .inl (.ld false 1 (.s 36))⟩, (some []), [.fr 4], 768, false⟩,
    ⟨⟨none, (some 38), .inr (.fn 114 [(.s 37), (.c (.int .i64 6))])⟩, (some []), [.fr 4], 2047, false⟩,
    ⟨⟨none, (some 39), .inl (.bld [(.int .i64 0), (.int .i64 0), (.int .i64 0), (.slice none 0 0)] [(0, 1, (.s 30)), (1, 1, (.s 34)), (2, 1, (.s 38))])⟩, (some []), [], 4095, false⟩,
    ⟨⟨none, (some 4), .inl (.alloc 26 [(.int .i64 0), (.int .i64 0), (.int .i64 0), (.slice none 0 0)])⟩, (some [.fr 4]), [], 0, false⟩,
    ⟨⟨none, none, .inl (.st 4 (.s 4) (.s 39))⟩, (some [.fr 4]), [], 16383, false⟩])
  (.seq (.draw [⟨⟨none, (some 40), .inl (.ld true 4 (.s 4))⟩, (some []), [], 0, false⟩,
    ⟨⟨none, (some 41), .inl (.fa (.s 4) 0)⟩, (some []), [], 0, false⟩,
    ⟨⟨none, (some 42), .inl (.ld false 1 (.s 41))⟩, (some []), [], 2, false⟩,
    ⟨⟨none, (some 43), .inl (.bin .geq (.s 42) (.c (.int .i64 0)))⟩, (some []), [], 6, false⟩,
    ⟨⟨none, (some 44), .inl (.mv (.s 43))⟩, (some []), [], 14, false⟩,
    ⟨⟨(some (44, true)), (some 45), .inl (.fa (.s 4) 1)⟩, (some []), [], 30, false⟩,
    ⟨⟨(some (44, true)), (some 46), .inl (.ld false 1 (.s 45))⟩, (some []), [], 62, false⟩,
    ⟨⟨(some (44, true)), (some 47), .inl (.bin .geq (.s 46) (.c (.int .i64 0)))⟩, (some []), [], 126, false⟩,
    ⟨⟨none, (some 48), .inl (.pick (.s 44) (.s 47) (.c (.bool false)))⟩, (some []), [], 254, false⟩,
    ⟨⟨none, (some 49), .inl (.mv (.s 48))⟩, (some []), [], 510, false⟩,
    ⟨⟨(some (49, true)), (some 50), .inl (.fa (.s 4) 2)⟩, (some []), [], 1022, false⟩,
    ⟨⟨(some (49, true)), (some 51), .inl (.ld false 1 (.s 50))⟩, (some []), [.at 2], 2046, false⟩,
    ⟨⟨(some (49, true)), (some 52), .inl (.bin .geq (.s 51) (.c (.int .i64 0)))⟩, (some []), [], 4094, false⟩,
    ⟨⟨none, (some 53), .inl (.pick (.s 49) (.s 52) (.c (.bool false)))⟩, (some []), [], 8190, false⟩,
    ⟨⟨none, none, .inl (.st 4 (.s 2) (.s 40))⟩, (some [.at 2]), [], 1023, false⟩,
    ⟨⟨none, (some 3), .inl (.mv (.s 53))⟩, (some []), [], 32767, false⟩])
  (.ret))))
/-- gyttja/gyttjaref01.word -/
def k78 : Cd :=
  .seq (.region [⟨none, (some 2), .inl (.mv (.c (.string ⟨#[]⟩)))⟩,
    ⟨none, (some 3), .inl (.mv (.c (.int .i64 0)))⟩])
  (.seq (.seq (.region [⟨none, (some 4), .inl (.mv (.s 0))⟩])
  (.block 0 (.seq (.region [⟨none, (some 6), .inl (.bin .eql (.s 4) (.c (.int .i64 1)))⟩,
    ⟨none, (some 5), .inl (.mv (.s 6))⟩])
  (.cond (.s 5) (.seq (.region [⟨none, (some 2), .inl (.mv (.c (.string ⟨#[109, 97, 114, 107]⟩)))⟩,
     ⟨none, (some 3), .inl (.mv (.c (.int .i64 1)))⟩])
   (.ret))
  (.seq (.region [⟨none, (some 8), .inl (.bin .eql (.s 4) (.c (.int .i64 2)))⟩,
     ⟨none, (some 7), .inl (.mv (.s 8))⟩])
   (.cond (.s 7) (.seq (.region [⟨none, (some 2), .inl (.mv (.c (.string ⟨#[121, 101, 97, 114]⟩)))⟩,
      ⟨none, (some 3), .inl (.mv (.c (.int .i64 1)))⟩])
    (.ret))
   (.seq (.region [⟨none, (some 10), .inl (.bin .eql (.s 4) (.c (.int .i64 3)))⟩,
      ⟨none, (some 9), .inl (.mv (.s 10))⟩])
    (.cond (.s 9) (.seq (.region [⟨none, (some 2), .inl (.mv (.c (.string ⟨#[112, 97, 105, 114]⟩)))⟩,
       ⟨none, (some 3), .inl (.mv (.c (.int .i64 2)))⟩])
     (.ret))
    (.seq (.region [⟨none, (some 12), .inl (.bin .eql (.s 4) (.c (.int .i64 4)))⟩,
       ⟨none, (some 11), .inl (.mv (.s 12))⟩])
     (.cond (.s 11) (.seq (.region [⟨none, (some 2), .inl (.mv (.c (.string ⟨#[115, 108, 117, 109, 112]⟩)))⟩,
        ⟨none, (some 3), .inl (.mv (.c (.int .i64 1)))⟩])
      (.ret))
     (.seq (.region [⟨none, (some 14), .inl (.bin .eql (.s 4) (.c (.int .i64 5)))⟩,
        ⟨none, (some 13), .inl (.mv (.s 14))⟩])
      (.cond (.s 13) (.seq (.region [⟨none, (some 2), .inl (.mv (.c (.string ⟨#[98, 101, 100]⟩)))⟩,
         ⟨none, (some 3), .inl (.mv (.c (.int .i64 1)))⟩])
       (.ret))
      (.skip)))))))))))))
  (.seq (.region [⟨none, (some 2), .inl (.mv (.c (.string ⟨#[103, 97, 112]⟩)))⟩,
    ⟨none, (some 3), .inl (.mv (.c (.int .i64 2)))⟩])
  (.ret)))
end Go.Proofs.YthgnholbajpdgaaDoor
