/- The small code of the functions of this program, as its own reader reads them: part A. -/
import Derived.Test.YtomiigdpggeacaaDoorEmU
namespace Go.Proofs.YtomiigdpggeacaaDoor
open Go Go.Em
set_option maxRecDepth 100000
/-- gyttja/gyttjalaw01.SheetCuts -/
def k6 : Cd :=
  .seq (.region [⟨none, (some 3), .inl (.box 25 4 (.s 0))⟩,
    ⟨none, (some 4), .inl (.box 34 2 (.s 1))⟩,
    ⟨none, (some 6), .inl (.mv (.c (.bool false)))⟩])
  (.seq (.region [⟨none, (some 23), .inr (.fn 10 [])⟩,
    ⟨none, (some 7), .inl (.mv (.s 23))⟩])
  (.seq (.region [⟨none, (some 25), .inl (.ld true 4 (.s 3))⟩,
    ⟨none, (some 26), .inl (.iaa 2 1 (.s 4) (.c (.int .i64 0)))⟩,
    ⟨none, (some 27), .inl (.ld false 1 (.s 26))⟩,
    ⟨none, (some 28), .inl (.iaa 2 1 (.s 4) (.c (.int .i64 1)))⟩,
    ⟨none, (some 29), .inl (.ld false 1 (.s 28))⟩,
    ⟨none, (some 30), .inr (.fn 16 [(.s 25), (.s 27), (.s 29)])⟩,
    ⟨none, (some 24), .inl (.mv (.s 30))⟩,
    ⟨none, (some 31), .inl (.ex (.s 24) 0)⟩,
    ⟨none, (some 32), .inl (.ex (.s 24) 1)⟩,
    ⟨none, (some 8), .inl (.mv (.s 31))⟩,
    ⟨none, (some 9), .inl (.mv (.s 32))⟩])
  (.seq (.region [⟨none, (some 34), .inl (.ld true 4 (.s 3))⟩,
    ⟨none, (some 35), .inl (.iaa 2 1 (.s 4) (.c (.int .i64 0)))⟩,
    ⟨none, (some 36), .inl (.ld false 1 (.s 35))⟩,
    ⟨none, (some 37), .inl (.iaa 2 1 (.s 4) (.c (.int .i64 1)))⟩,
    ⟨none, (some 38), .inl (.ld false 1 (.s 37))⟩,
    ⟨none, (some 39), .inr (.fn 17 [(.s 34), (.s 36), (.s 38)])⟩,
    ⟨none, (some 33), .inl (.mv (.s 39))⟩,
    ⟨none, (some 40), .inl (.ex (.s 33) 0)⟩,
    ⟨none, (some 41), .inl (.ex (.s 33) 1)⟩,
    ⟨none, (some 10), .inl (.mv (.s 40))⟩,
    ⟨none, (some 11), .inl (.mv (.s 41))⟩])
  (.seq (.region [⟨none, (some 43), .inl (.ld true 4 (.s 3))⟩,
    ⟨none, (some 44), .inl (.iaa 2 1 (.s 4) (.c (.int .i64 0)))⟩,
    ⟨none, (some 45), .inl (.ld false 1 (.s 44))⟩,
    ⟨none, (some 46), .inl (.iaa 2 1 (.s 4) (.c (.int .i64 1)))⟩,
    ⟨none, (some 47), .inl (.ld false 1 (.s 46))⟩,
    ⟨none, (some 48), .inl (.mv (.s 2))⟩,
    ⟨none, (some 49), .inr (.fn 18 [(.s 43), (.s 45), (.s 47), (.s 48)])⟩,
    ⟨none, (some 42), .inl (.mv (.s 49))⟩,
    ⟨none, (some 50), .inl (.ex (.s 42) 0)⟩,
    ⟨none, (some 51), .inl (.ex (.s 42) 1)⟩,
    ⟨none, (some 12), .inl (.alloc 25 [(.int .i64 0), (.int .i64 0), (.int .i64 0), (.slice none 0 0)])⟩,
    ⟨none, none, .inl (.st 4 (.s 12) (.s 50))⟩,
    ⟨none, (some 13), .inl (.mv (.s 51))⟩])
  (.seq (.region [⟨none, (some 53), .inl (.ld true 4 (.s 3))⟩,
    ⟨none, (some 54), .inl (.iaa 2 1 (.s 4) (.c (.int .i64 0)))⟩,
    ⟨none, (some 55), .inl (.ld false 1 (.s 54))⟩,
    ⟨none, (some 56), .inl (.iaa 2 1 (.s 4) (.c (.int .i64 1)))⟩,
    ⟨none, (some 57), .inl (.ld false 1 (.s 56))⟩,
    ⟨none, (some 58), .inl (.mv (.s 2))⟩,
    ⟨none, (some 59), .inr (.fn 19 [(.s 53), (.s 55), (.s 57), (.s 58)])⟩,
    ⟨none, (some 52), .inl (.mv (.s 59))⟩,
    ⟨none, (some 60), .inl (.ex (.s 52) 0)⟩,
    ⟨none, (some 61), .inl (.ex (.s 52) 1)⟩,
    ⟨none, (some 14), .inl (.alloc 25 [(.int .i64 0), (.int .i64 0), (.int .i64 0), (.slice none 0 0)])⟩,
    ⟨none, none, .inl (.st 4 (.s 14) (.s 60))⟩,
    ⟨none, (some 15), .inl (.mv (.s 61))⟩])
  (.seq (.region [⟨none, (some 63), .inl (.ld true 4 (.s 3))⟩,
    ⟨none, (some 64), .inl (.iaa 2 1 (.s 4) (.c (.int .i64 0)))⟩,
    ⟨none, (some 65), .inl (.ld false 1 (.s 64))⟩,
    ⟨none, (some 66), .inl (.iaa 2 1 (.s 4) (.c (.int .i64 1)))⟩,
    ⟨none, (some 67), .inl (.ld false 1 (.s 66))⟩,
    ⟨none, (some 68), .inr (.fn 20 [(.s 63), (.s 65), (.s 67)])⟩,
    ⟨none, (some 62), .inl (.mv (.s 68))⟩,
    ⟨none, (some 69), .inl (.ex (.s 62) 0)⟩,
    ⟨none, (some 70), .inl (.ex (.s 62) 1)⟩,
    ⟨none, (some 16), .inl (.alloc 25 [(.int .i64 0), (.int .i64 0), (.int .i64 0), (.slice none 0 0)])⟩,
    ⟨none, none, .inl (.st 4 (.s 16) (.s 69))⟩,
    ⟨none, (some 17), .inl (.mv (.s 70))⟩])
  (.seq (.region [⟨none, (some 72), .inl (.ld true 4 (.s 3))⟩,
    ⟨none, (some 73), .inl (.iaa 2 1 (.s 4) (.c (.int .i64 0)))⟩,
    ⟨none, (some 74), .inl (.ld false 1 (.s 73))⟩,
    ⟨none, (some 75), .inl (.iaa 2 1 (.s 4) (.c (.int .i64 1)))⟩,
    ⟨none, (some 76), .inl (.ld false 1 (.s 75))⟩,
    ⟨none, (some 77), .inr (.fn 21 [(.s 72), (.s 74), (.s 76)])⟩,
    ⟨none, (some 71), .inl (.mv (.s 77))⟩,
    ⟨none, (some 78), .inl (.ex (.s 71) 0)⟩,
    ⟨none, (some 79), .inl (.ex (.s 71) 1)⟩,
    ⟨none, (some 18), .inl (.alloc 25 [(.int .i64 0), (.int .i64 0), (.int .i64 0), (.slice none 0 0)])⟩,
    ⟨none, none, .inl (.st 4 (.s 18) (.s 78))⟩,
    ⟨none, (some 19), .inl (.mv (.s 79))⟩])
  (.seq (.region [⟨none, (some 80), .inl (.mv (.s 8))⟩,
    ⟨none, (some 81), .inl (.mv (.s 10))⟩,
    ⟨none, (some 82), .inr (.fn 22 [(.s 80), (.s 81)])⟩,
    ⟨none, (some 20), .inl (.mv (.s 82))⟩])
  (.seq (.region [⟨none, (some 83), .inl (.ld true 4 (.s 12))⟩,
    ⟨none, (some 84), .inl (.ld true 4 (.s 14))⟩,
    ⟨none, (some 85), .inr (.fn 13 [(.s 83), (.s 84)])⟩,
    ⟨none, (some 21), .inl (.mv (.s 85))⟩])
  (.seq (.region [⟨none, (some 86), .inl (.ld true 4 (.s 16))⟩,
    ⟨none, (some 87), .inl (.ld true 4 (.s 18))⟩,
    ⟨none, (some 88), .inr (.fn 13 [(.s 86), (.s 87)])⟩,
    ⟨none, (some 22), .inl (.mv (.s 88))⟩])
  (.seq (.region [⟨none, (some 89), .inl (.mv (.s 7))⟩,
    ⟨none, (some 90), .inl (.mv (.s 89))⟩,
    ⟨(some (90, true)), (some 91), .inl (.mv (.s 20))⟩,
    ⟨none, (some 92), .inl (.pick (.s 90) (.s 91) (.c (.bool false)))⟩,
    ⟨none, (some 93), .inl (.mv (.s 92))⟩,
    ⟨(some (93, true)), (some 94), .inl (.mv (.s 21))⟩,
    ⟨none, (some 95), .inl (.pick (.s 93) (.s 94) (.c (.bool false)))⟩,
    ⟨none, (some 96), .inl (.mv (.s 95))⟩,
    ⟨(some (96, true)), (some 97), .inl (.mv (.s 22))⟩,
    ⟨none, (some 98), .inl (.pick (.s 96) (.s 97) (.c (.bool false)))⟩,
    ⟨none, (some 99), .inl (.mv (.s 98))⟩,
    ⟨(some (99, true)), (some 100), .inl (.mv (.s 9))⟩,
    ⟨(some (99, true)), (some 101), .inl (.mv (.s 11))⟩,
    ⟨(some (99, true)), (some 102), .inl (.bin .eql (.s 100) (.s 101))⟩,
    ⟨none, (some 103), .inl (.pick (.s 99) (.s 102) (.c (.bool false)))⟩,
    ⟨none, (some 104), .inl (.mv (.s 103))⟩,
    ⟨(some (104, true)), (some 105), .inl (.mv (.s 13))⟩,
    ⟨(some (104, true)), (some 106), .inl (.mv (.s 15))⟩,
    ⟨(some (104, true)), (some 107), .inl (.bin .eql (.s 105) (.s 106))⟩,
    ⟨none, (some 108), .inl (.pick (.s 104) (.s 107) (.c (.bool false)))⟩,
    ⟨none, (some 109), .inl (.mv (.s 108))⟩,
    ⟨(some (109, true)), (some 110), .inl (.mv (.s 17))⟩,
    ⟨(some (109, true)), (some 111), .inl (.mv (.s 19))⟩,
    ⟨(some (109, true)), (some 112), .inl (.bin .eql (.s 110) (.s 111))⟩,
    ⟨none, (some 113), .inl (.pick (.s 109) (.s 112) (.c (.bool false)))⟩,
    ⟨none, (some 6), .inl (.mv (.s 113))⟩])
  (.ret))))))))))))
/-- gyttja/gyttjalaw01.SheetMeets -/
def k7 : Cd :=
  .seq (.region [⟨none, (some 2), .inl (.box 25 4 (.s 0))⟩,
    ⟨none, (some 3), .inl (.box 25 4 (.s 1))⟩,
    ⟨none, (some 4), .inl (.mv (.c (.bool false)))⟩])
  (.seq (.region [⟨none, (some 16), .inr (.fn 10 [])⟩,
    ⟨none, (some 5), .inl (.mv (.s 16))⟩])
  (.seq (.region [⟨none, (some 17), .inl (.ld true 4 (.s 2))⟩,
    ⟨none, (some 18), .inr (.fn 23 [(.s 17)])⟩,
    ⟨none, none, .inl (.st 4 (.s 2) (.s 18))⟩])
  (.seq (.region [⟨none, (some 19), .inl (.ld true 4 (.s 3))⟩,
    ⟨none, (some 20), .inr (.fn 23 [(.s 19)])⟩,
    ⟨none, none, .inl (.st 4 (.s 3) (.s 20))⟩])
  (.seq (.region [⟨none, (some 22), .inl (.ld true 4 (.s 2))⟩,
    ⟨none, (some 23), .inl (.ld true 4 (.s 3))⟩,
    ⟨none, (some 24), .inr (.fn 24 [(.s 22), (.s 23)])⟩,
    ⟨none, (some 21), .inl (.mv (.s 24))⟩,
    ⟨none, (some 25), .inl (.ex (.s 21) 0)⟩,
    ⟨none, (some 26), .inl (.ex (.s 21) 1)⟩,
    ⟨none, (some 6), .inl (.mv (.s 25))⟩,
    ⟨none, (some 7), .inl (.mv (.s 26))⟩])
  (.seq (.region [⟨none, (some 28), .inl (.ld true 4 (.s 2))⟩,
    ⟨none, (some 29), .inl (.ld true 4 (.s 3))⟩,
    ⟨none, (some 30), .inr (.fn 25 [(.s 28), (.s 29)])⟩,
    ⟨none, (some 27), .inl (.mv (.s 30))⟩,
    ⟨none, (some 31), .inl (.ex (.s 27) 0)⟩,
    ⟨none, (some 32), .inl (.ex (.s 27) 1)⟩,
    ⟨none, (some 8), .inl (.mv (.s 31))⟩,
    ⟨none, (some 9), .inl (.mv (.s 32))⟩])
  (.seq (.region [⟨none, (some 34), .inl (.ld true 4 (.s 2))⟩,
    ⟨none, (some 35), .inl (.ld true 4 (.s 3))⟩,
    ⟨none, (some 36), .inr (.fn 26 [(.s 34), (.s 35)])⟩,
    ⟨none, (some 33), .inl (.mv (.s 36))⟩,
    ⟨none, (some 37), .inl (.ex (.s 33) 0)⟩,
    ⟨none, (some 38), .inl (.ex (.s 33) 1)⟩,
    ⟨none, (some 10), .inl (.mv (.s 37))⟩,
    ⟨none, (some 11), .inl (.mv (.s 38))⟩])
  (.seq (.region [⟨none, (some 40), .inl (.ld true 4 (.s 2))⟩,
    ⟨none, (some 41), .inl (.ld true 4 (.s 3))⟩,
    ⟨none, (some 42), .inr (.fn 27 [(.s 40), (.s 41)])⟩,
    ⟨none, (some 39), .inl (.mv (.s 42))⟩,
    ⟨none, (some 43), .inl (.ex (.s 39) 0)⟩,
    ⟨none, (some 44), .inl (.ex (.s 39) 1)⟩,
    ⟨none, (some 12), .inl (.mv (.s 43))⟩,
    ⟨none, (some 13), .inl (.mv (.s 44))⟩])
  (.seq (.region [⟨none, (some 45), .inl (.mv (.s 6))⟩,
    ⟨none, (some 46), .inl (.mv (.s 8))⟩,
    ⟨none, (some 47), .inr (.fn 28 [(.s 45), (.s 46)])⟩,
    ⟨none, (some 14), .inl (.mv (.s 47))⟩])
  (.seq (.region [⟨none, (some 48), .inl (.mv (.s 10))⟩,
    ⟨none, (some 49), .inl (.mv (.s 12))⟩,
    ⟨none, (some 50), .inr (.fn 28 [(.s 48), (.s 49)])⟩,
    ⟨none, (some 15), .inl (.mv (.s 50))⟩])
  (.seq (.region [⟨none, (some 51), .inl (.mv (.s 5))⟩,
    ⟨none, (some 52), .inl (.mv (.s 51))⟩,
    ⟨(some (52, true)), (some 53), .inl (.mv (.s 14))⟩,
    ⟨none, (some 54), .inl (.pick (.s 52) (.s 53) (.c (.bool false)))⟩,
    ⟨none, (some 55), .inl (.mv (.s 54))⟩,
    ⟨(some (55, true)), (some 56), .inl (.mv (.s 15))⟩,
    ⟨none, (some 57), .inl (.pick (.s 55) (.s 56) (.c (.bool false)))⟩,
    ⟨none, (some 58), .inl (.mv (.s 57))⟩,
    ⟨(some (58, true)), (some 59), .inl (.mv (.s 7))⟩,
    ⟨(some (58, true)), (some 60), .inl (.mv (.s 9))⟩,
    ⟨(some (58, true)), (some 61), .inl (.bin .eql (.s 59) (.s 60))⟩,
    ⟨none, (some 62), .inl (.pick (.s 58) (.s 61) (.c (.bool false)))⟩,
    ⟨none, (some 63), .inl (.mv (.s 62))⟩,
    ⟨(some (63, true)), (some 64), .inl (.mv (.s 11))⟩,
    ⟨(some (63, true)), (some 65), .inl (.mv (.s 13))⟩,
    ⟨(some (63, true)), (some 66), .inl (.bin .eql (.s 64) (.s 65))⟩,
    ⟨none, (some 67), .inl (.pick (.s 63) (.s 66) (.c (.bool false)))⟩,
    ⟨none, (some 4), .inl (.mv (.s 67))⟩])
  (.ret)))))))))))
/-- gyttja/gyttjalaw01.SheetSplices -/
def k8 : Cd :=
  .seq (.region [⟨none, (some 3), .inl (.box 25 4 (.s 0))⟩,
    ⟨none, (some 5), .inl (.box 34 2 (.s 2))⟩,
    ⟨none, (some 6), .inl (.mv (.c (.bool false)))⟩])
  (.seq (.region [⟨none, (some 32), .inr (.fn 10 [])⟩,
    ⟨none, (some 7), .inl (.mv (.s 32))⟩])
  (.seq (.region [⟨none, (some 33), .inl (.ld true 4 (.s 3))⟩,
    ⟨none, (some 34), .inr (.fn 23 [(.s 33)])⟩,
    ⟨none, none, .inl (.st 4 (.s 3) (.s 34))⟩])
  (.seq (.region [⟨none, (some 35), .inl (.mv (.s 1))⟩,
    ⟨none, (some 36), .inr (.fn 29 [(.s 35)])⟩,
    ⟨none, (some 1), .inl (.mv (.s 36))⟩])
  (.seq (.region [⟨none, (some 37), .inl (.ld true 4 (.s 3))⟩,
    ⟨none, (some 38), .inr (.fn 30 [(.s 37)])⟩,
    ⟨none, (some 8), .inl (.mv (.s 38))⟩])
  (.seq (.seq (.region [⟨none, (some 39), .inl (.mv (.s 8))⟩,
    ⟨none, (some 40), .inl (.len (.s 39))⟩,
    ⟨none, (some 41), .inl (.bin .lss (.s 40) (.c (.int .i64 2)))⟩])
  (.cond (.s 41) (.seq (.region [⟨none, (some 42), .inl (.mv (.s 7))⟩,
     ⟨none, (some 6), .inl (.mv (.s 42))⟩])
   (.ret))
  (.skip)))
  (.seq (.region [⟨none, (some 43), .inl (.iaa 2 1 (.s 5) (.c (.int .i64 0)))⟩,
    ⟨none, (some 44), .inl (.ld false 1 (.s 43))⟩,
    ⟨none, (some 45), .inl (.mv (.s 8))⟩,
    ⟨none, (some 46), .inl (.len (.s 45))⟩,
    ⟨none, (some 47), .inl (.bin .sub (.s 46) (.c (.int .i64 1)))⟩,
    ⟨none, (some 48), .inr (.fn 31 [(.s 44), (.s 47)])⟩,
    ⟨none, (some 9), .inl (.mv (.s 48))⟩])
  (.seq (.region [⟨none, (some 49), .inl (.mv (.s 9))⟩,
    ⟨none, (some 50), .inl (.bin .add (.s 49) (.c (.int .i64 1)))⟩,
    ⟨none, (some 51), .inl (.iaa 2 1 (.s 5) (.c (.int .i64 1)))⟩,
    ⟨none, (some 52), .inl (.ld false 1 (.s 51))⟩,
    ⟨none, (some 53), .inl (.mv (.s 8))⟩,
    ⟨none, (some 54), .inl (.len (.s 53))⟩,
    ⟨none, (some 55), .inl (.bin .sub (.s 54) (.c (.int .i64 1)))⟩,
    ⟨none, (some 56), .inl (.mv (.s 9))⟩,
    ⟨none, (some 57), .inl (.bin .sub (.s 55) (.s 56))⟩,
    ⟨none, (some 58), .inr (.fn 31 [(.s 52), (.s 57)])⟩,
    ⟨none, (some 59), .inl (.bin .add (.s 50) (.s 58))⟩,
    ⟨none, (some 10), .inl (.mv (.s 59))⟩])
  (.seq (.draw [⟨⟨none, (some 61), .inl (.ld true 4 (.s 3))⟩, (some []), [], 0, false⟩,
    ⟨⟨none, (some 62), .inl (.mv (.s 8))⟩, (some []), [], 0, false⟩,
    ⟨⟨none, (some 63), .inl (.mv (.s 9))⟩, (some []), [], 0, false⟩,
    ⟨⟨none, (some 64), .inl (.ias 1 (.s 62) (.s 63))⟩, (some []), [], 6, false⟩,
    ⟨⟨none, (some 65), .inl (.ld false 1 (.s 64))⟩, (some []), [], 14, false⟩,
    ⟨⟨none, (some 66), .inl (.mv (.s 8))⟩, (some []), [], 0, false⟩,
    ⟨⟨none, (some 67), .inl (.mv (.s 10))⟩, (some []), [], 0, false⟩,
    ⟨⟨none, (some 68), .inl (.ias 1 (.s 66) (.s 67))⟩, (some []), [], 96, false⟩,
    ⟨⟨none, (some 69), .inl (.ld false 1 (.s 68))⟩, (some []), [], 224, false⟩,
    ⟨⟨none, (some 70), .inr (.fn 16 [(.s 61), (.s 65), (.s 69)])⟩, (some []), [], 511, false⟩,
    ⟨⟨none, (some 60), .inl (.mv (.s 70))⟩, (some []), [], 1023, false⟩,
    ⟨⟨none, (some 71), .inl (.ex (.s 60) 0)⟩, (some []), [], 2047, false⟩,
    ⟨⟨none, (some 72), .inl (.ex (.s 60) 1)⟩, (some []), [], 2047, false⟩,
    ⟨⟨none, (some 11), .inl (.mv (.s 71))⟩, (some []), [], 4095, false⟩,
    ⟨⟨none, (some 12), .inl (.mv (.s 72))⟩, (some []), [], 16383, false⟩])
  (.seq (.draw [⟨⟨none, (some 74), .inl (.ld true 4 (.s 3))⟩, (some []), [.fr 13], 0, false⟩,
    ⟨⟨none, (some 75), .inl (.mv (.s 8))⟩, (some []), [], 0, false⟩,
    ⟨⟨none, (some 76), .inl (.mv (.s 9))⟩, (some []), [], 0, false⟩,
    ⟨⟨none, (some 77), .inl (.ias 1 (.s 75) (.s 76))⟩, (some []), [], 6, false⟩,
    ⟨⟨none, (some 78), .inl (.ld false 1 (.s 77))⟩, (some []), [.fr 13], 14, false⟩,
    ⟨⟨none, (some 79), .inl (.mv (.s 8))⟩, (some []), [], 0, false⟩,
    ⟨⟨none, (some 80), .inl (.mv (.s 10))⟩, (some []), [], 0, false⟩,
    ⟨⟨none, (some 81), .inl (.ias 1 (.s 79) (.s 80))⟩, (some []), [], 96, false⟩,
    ⟨⟨none, (some 82), .inl (.ld false 1 (.s 81))⟩, (some []), [.fr 13], 224, false⟩,
    ⟨⟨none, (some 83), .inl (.mv (.s 11))⟩, (some []), [], 0, false⟩,
    ⟨⟨none, (some 84), .inr (.fn 18 [(.s 74), (.s 78), (.s 82), (.s 83)])⟩, (some []), [.fr 13], 1023, false⟩,
    ⟨⟨none, (some 73), .inl (.mv (.s 84))⟩, (some []), [], 2047, false⟩,
    ⟨⟨none, (some 85), .inl (.ex (.s 73) 0)⟩, (some []), [], 4095, false⟩,
    ⟨⟨none, (some 86), .inl (.ex (.s 73) 1)⟩, (some []), [], 4095, false⟩,
    ⟨⟨none, (some 13), .inl (.alloc 25 [(.int .i64 0), (.int .i64 0), (.int .i64 0), (.slice none 0 0)])⟩, (some [.fr 13]), [], 0, false⟩,
    ⟨⟨none, none, .inl (.st 4 (.s 13) (.s 85))⟩, (some [.fr 13]), [], 24575, false⟩,
    ⟨⟨none, (some 14), .inl (.mv (.s 86))⟩, (some []), [], 65535, false⟩])
  (.seq (.region [⟨none, (some 87), .inl (.ld true 4 (.s 13))⟩,
    ⟨none, (some 88), .inl (.ld true 4 (.s 3))⟩,
    ⟨none, (some 89), .inr (.fn 13 [(.s 87), (.s 88)])⟩,
    ⟨none, (some 15), .inl (.mv (.s 89))⟩])
  (.seq (.seq (.region [⟨none, (some 90), .inl (.mv (.s 12))⟩,
    ⟨none, (some 91), .inl (.bin .neq (.s 90) (.c (.int .i64 0)))⟩,
    ⟨none, (some 92), .inl (.mv (.s 91))⟩,
    ⟨(some (92, false)), (some 93), .inl (.mv (.s 14))⟩,
    ⟨(some (92, false)), (some 94), .inl (.bin .neq (.s 93) (.c (.int .i64 0)))⟩,
    ⟨none, (some 95), .inl (.pick (.s 92) (.c (.bool true)) (.s 94))⟩,
    ⟨none, (some 96), .inl (.mv (.s 95))⟩,
    ⟨(some (96, false)), (some 97), .inl (.mv (.s 15))⟩,
    ⟨(some (96, false)), (some 98), .inl (.not (.s 97))⟩,
    ⟨none, (some 99), .inl (.pick (.s 96) (.c (.bool true)) (.s 98))⟩])
  (.cond (.s 99) (.seq (.region [⟨none, (some 6), .inl (.mv (.c (.bool false)))⟩])
   (.ret))
  (.skip)))
  (.seq (.draw [⟨⟨none, (some 101), .inl (.ld true 4 (.s 3))⟩, (some []), [.fr 16], 0, false⟩,
    ⟨⟨none, (some 102), .inl (.mv (.s 8))⟩, (some []), [], 0, false⟩,
    ⟨⟨none, (some 103), .inl (.mv (.s 9))⟩, (some []), [], 0, false⟩,
    ⟨⟨none, (some 104), .inl (.ias 1 (.s 102) (.s 103))⟩, (some []), [], 6, false⟩,
    ⟨⟨none, (some 105), .inl (.ld false 1 (.s 104))⟩, (some []), [.fr 16], 14, false⟩,
    ⟨⟨none, (some 106), .inl (.mv (.s 8))⟩, (some []), [], 0, false⟩,
    ⟨⟨none, (some 107), .inl (.mv (.s 10))⟩, (some []), [], 0, false⟩,
    ⟨⟨none, (some 108), .inl (.ias 1 (.s 106) (.s 107))⟩, (some []), [], 96, false⟩,
    ⟨⟨none, (some 109), .inl (.ld false 1 (.s 108))⟩, (some []), [.fr 16], 224, false⟩,
    ⟨⟨none, (some 110), .inl (.mv (.s 1))⟩, (some []), [], 0, false⟩,
    ⟨⟨none, (some 111), .inr (.fn 18 [(.s 101), (.s 105), (.s 109), (.s 110)])⟩, (some []), [.fr 16], 1023, false⟩,
    ⟨⟨none, (some 100), .inl (.mv (.s 111))⟩, (some []), [], 2047, false⟩,
    ⟨⟨none, (some 112), .inl (.ex (.s 100) 0)⟩, (some []), [], 4095, false⟩,
    ⟨⟨none, (some 113), .inl (.ex (.s 100) 1)⟩, (some []), [], 4095, false⟩,
    ⟨⟨none, (some 16), .inl (.alloc 25 [(.int .i64 0), (.int .i64 0), (.int .i64 0), (.slice none 0 0)])⟩, (some [.fr 16]), [], 0, false⟩,
    ⟨⟨none, none, .inl (.st 4 (.s 16) (.s 112))⟩, (some [.fr 16]), [], 24575, false⟩,
    ⟨⟨none, (some 17), .inl (.mv (.s 113))⟩, (some []), [], 65535, false⟩])
  (.seq (.seq (.region [⟨none, (some 114), .inl (.mv (.s 17))⟩,
    ⟨none, (some 115), .inl (.bin .neq (.s 114) (.c (.int .i64 0)))⟩])
  (.cond (.s 115) (.seq (.region [⟨none, (some 117), .inl (.mv (.s 1))⟩,
     ⟨none, (some 118), .inr (.fn 32 [(.s 117)])⟩,
     ⟨none, (some 116), .inl (.mv (.s 118))⟩,
     ⟨none, (some 119), .inl (.ex (.s 116) 0)⟩,
     ⟨none, (some 120), .inl (.ex (.s 116) 1)⟩,
     ⟨none, (some 121), .inl (.ex (.s 116) 2)⟩,
     ⟨none, (some 18), .inl (.mv (.s 119))⟩,
     ⟨none, (some 19), .inl (.mv (.s 120))⟩,
     ⟨none, (some 20), .inl (.mv (.s 121))⟩])
   (.seq (.region [⟨none, (some 122), .inl (.mv (.s 7))⟩,
     ⟨none, (some 123), .inl (.mv (.s 122))⟩,
     ⟨(some (123, true)), (some 124), .inl (.mv (.s 20))⟩,
     ⟨(some (123, true)), (some 125), .inl (.bin .neq (.s 124) (.c (.int .i64 0)))⟩,
     ⟨(some (123, true)), (some 126), .inl (.mv (.s 125))⟩,
     ⟨(some (126, false)), (some 127), .inl (.mv (.s 17))⟩,
     ⟨(some (126, false)), (some 128), .inl (.bin .eql (.s 127) (.c (.int .i64 15)))⟩,
     ⟨(some (123, true)), (some 129), .inl (.pick (.s 126) (.c (.bool true)) (.s 128))⟩,
     ⟨(some (123, true)), (some 130), .inl (.mv (.s 129))⟩,
     ⟨(some (130, false)), (some 131), .inl (.mv (.s 17))⟩,
     ⟨(some (130, false)), (some 132), .inl (.bin .eql (.s 131) (.c (.int .i64 2)))⟩,
     ⟨(some (123, true)), (some 133), .inl (.pick (.s 130) (.c (.bool true)) (.s 132))⟩,
     ⟨none, (some 134), .inl (.pick (.s 123) (.s 133) (.c (.bool false)))⟩,
     ⟨none, (some 6), .inl (.mv (.s 134))⟩])
   (.ret)))
  (.skip)))
  (.seq (.draw [⟨⟨none, (some 136), .inl (.ld true 4 (.s 16))⟩, (some []), [], 0, false⟩,
    ⟨⟨none, (some 137), .inl (.mv (.s 8))⟩, (some []), [], 0, false⟩,
    ⟨⟨none, (some 138), .inl (.mv (.s 9))⟩, (some []), [], 0, false⟩,
    ⟨⟨none, (some 139), .inl (.ias 1 (.s 137) (.s 138))⟩, (some []), [], 6, false⟩,
    ⟨⟨none, (some 140), .inl (.ld false 1 (.s 139))⟩, (some []), [], 14, false⟩,
    ⟨⟨none, (some 141), .inl (.mv (.s 8))⟩, (some []), [], 0, false⟩,
    ⟨⟨none, (some 142), .inl (.mv (.s 10))⟩, (some []), [], 0, false⟩,
    ⟨⟨none, (some 143), .inl (.ias 1 (.s 141) (.s 142))⟩, (some []), [], 96, false⟩,
    ⟨⟨none, (some 144), .inl (.ld false 1 (.s 143))⟩, (some []), [], 224, false⟩,
    ⟨⟨none, (some 145), .inr (.fn 16 [(.s 136), (.s 140), (.s 144)])⟩, (some []), [], 511, false⟩,
    ⟨⟨none, (some 135), .inl (.mv (.s 145))⟩, (some []), [], 1023, false⟩,
    ⟨⟨none, (some 146), .inl (.ex (.s 135) 0)⟩, (some []), [], 2047, false⟩,
    ⟨⟨none, (some 147), .inl (.ex (.s 135) 1)⟩, (some []), [], 2047, false⟩,
    ⟨⟨none, (some 21), .inl (.mv (.s 146))⟩, (some []), [], 4095, false⟩,
    ⟨⟨none, (some 22), .inl (.mv (.s 147))⟩, (some []), [], 16383, false⟩])
  (.seq (.region [⟨none, (some 148), .inl (.mv (.s 21))⟩,
    ⟨none, (some 149), .inl (.mv (.s 1))⟩,
    ⟨none, (some 150), .inr (.fn 22 [(.s 148), (.s 149)])⟩,
    ⟨none, (some 23), .inl (.mv (.s 150))⟩])
  (.seq (.draw [⟨⟨none, (some 152), .inl (.ld true 4 (.s 3))⟩, (some []), [.fr 24], 0, false⟩,
    ⟨⟨none, (some 153), .inl (.mv (.s 8))⟩, (some []), [], 0, false⟩,
    ⟨⟨none, (some 154), .inl (.ias 1 (.s 153) (.c (.int .i64 0)))⟩, (some []), [], 2, false⟩,
    ⟨⟨none, (some 155), .inl (.ld false 1 (.s 154))⟩, (some []), [.fr 24], 6, false⟩,
    ⟨⟨none, (some 156), .inl (.mv (.s 8))⟩, (some []), [], 0, false⟩,
    ⟨⟨none, (some 157), .inl (.mv (.s 9))⟩, (some []), [], 0, false⟩,
    ⟨⟨none, (some 158), .inl (.ias 1 (.s 156) (.s 157))⟩, (some []), [], 48, false⟩,
    ⟨⟨none, (some 159), .inl (.ld false 1 (.s 158))⟩, (some []), [.fr 24], 112, false⟩,
    ⟨⟨none, (some 160), .inr (.fn 33 [(.s 152), (.s 155), (.s 159)])⟩, (some []), [.fr 24], 255, false⟩,
    ⟨⟨none, (some 151), .inl (.mv (.s 160))⟩, (some []), [], 511, false⟩,
    ⟨⟨none, (some 161), .inl (.ex (.s 151) 0)⟩, (some []), [], 1023, false⟩,
    ⟨⟨none, (some 162), .inl (.ex (.s 151) 1)⟩, (some []), [], 1023, false⟩,
    ⟨⟨none, (some 24), .inl (.alloc 54 [(.int .i64 0), (.int .i64 0), (.int .i64 0), (.int .i64 0)])⟩, (some [.fr 24]), [], 0, false⟩,
    ⟨⟨none, none, .inl (.st 4 (.s 24) (.s 161))⟩, (some [.fr 24]), [], 6143, false⟩,
    ⟨⟨none, (some 25), .inl (.mv (.s 162))⟩, (some []), [], 16383, false⟩])
  (.seq (.draw [⟨⟨none, (some 164), .inl (.ld true 4 (.s 16))⟩, (some []), [.fr 26], 0, false⟩,
    ⟨⟨none, (some 165), .inl (.mv (.s 8))⟩, (some []), [], 0, false⟩,
    ⟨⟨none, (some 166), .inl (.ias 1 (.s 165) (.c (.int .i64 0)))⟩, (some []), [], 2, false⟩,
    ⟨⟨none, (some 167), .inl (.ld false 1 (.s 166))⟩, (some []), [.fr 26], 6, false⟩,
    ⟨⟨none, (some 168), .inl (.mv (.s 8))⟩, (some []), [], 0, false⟩,
    ⟨⟨none, (some 169), .inl (.mv (.s 9))⟩, (some []), [], 0, false⟩,
    ⟨⟨none, (some 170), .inl (.ias 1 (.s 168) (.s 169))⟩, (some []), [], 48, false⟩,
    ⟨⟨none, (some 171), .inl (.ld false 1 (.s 170))⟩, (some []), [.fr 26], 112, false⟩,
    ⟨⟨none, (some 172), .inr (.fn 33 [(.s 164), (.s 167), (.s 171)])⟩, (some []), [.fr 26], 255, false⟩,
    ⟨⟨none, (some 163), .inl (.mv (.s 172))⟩, (some []), [], 511, false⟩,
    ⟨⟨none, (some 173), .inl (.ex (.s 163) 0)⟩, (some []), [], 1023, false⟩,
    ⟨⟨none, (some 174), .inl (.ex (.s 163) 1)⟩, (some []), [], 1023, false⟩,
    ⟨⟨none, (some 26), .inl (.alloc 54 [(.int .i64 0), (.int .i64 0), (.int .i64 0), (.int .i64 0)])⟩, (some [.fr 26]), [], 0, false⟩,
    ⟨⟨none, none, .inl (.st 4 (.s 26) (.s 173))⟩, (some [.fr 26]), [], 6143, false⟩,
    ⟨⟨none, (some 27), .inl (.mv (.s 174))⟩, (some []), [], 16383, false⟩])
  (.seq (.draw [⟨⟨none, (some 176), .inl (.ld true 4 (.s 3))⟩, (some []), [.fr 28], 0, false⟩,
    ⟨⟨none, (some 177), .inl (.mv (.s 8))⟩, (some []), [], 0, false⟩,
    ⟨⟨none, (some 178), .inl (.mv (.s 10))⟩, (some []), [], 0, false⟩,
    ⟨⟨none, (some 179), .inl (.ias 1 (.s 177) (.s 178))⟩, (some []), [], 6, false⟩,
    ⟨⟨none, (some 180), .inl (.ld false 1 (.s 179))⟩, (some []), [.fr 28], 14, false⟩,
    ⟨⟨none, (some 181), .inl (.mv (.s 8))⟩, (some []), [], 0, false⟩,
    ⟨⟨none, (some 182), .inl (.mv (.s 8))⟩, (some []), [], 0, false⟩,
    ⟨⟨none, (some 183), .inl (.len (.s 182))⟩, (some []), [], 64, false⟩,
    ⟨⟨none, (some 184), .inl (.bin .sub (.s 183) (.c (.int .i64 1)))⟩, (some []), [], 192, false⟩,
    ⟨⟨none, (some 185), .inl (.ias 1 (.s 181) (.s 184))⟩, (some []), [], 480, false⟩,
    ⟨⟨none, (some 186), .inl (.ld false 1 (.s 185))⟩, (some []), [.fr 28], 992, false⟩,
    ⟨⟨none, (some 187), .inr (.fn 33 [(.s 176), (.s 180), (.s 186)])⟩, (some []), [.fr 28], 2047, false⟩,
    ⟨⟨none, (some 175), .inl (.mv (.s 187))⟩, (some []), [], 4095, false⟩,
    ⟨⟨none, (some 188), .inl (.ex (.s 175) 0)⟩, (some []), [], 8191, false⟩,
    ⟨⟨none, (some 189), .inl (.ex (.s 175) 1)⟩, (some []), [], 8191, false⟩,
    ⟨⟨none, (some 28), .inl (.alloc 54 [(.int .i64 0), (.int .i64 0), (.int .i64 0), (.int .i64 0)])⟩, (some [.fr 28]), [], 0, false⟩,
    ⟨⟨none, none, .inl (.st 4 (.s 28) (.s 188))⟩, (some [.fr 28]), [], 49151, false⟩,
    ⟨⟨none, (some 29), .inl (.mv (.s 189))⟩, (some []), [], 131071, false⟩])
  (.seq (.draw [⟨⟨none, (some 191), .inl (.ld true 4 (.s 16))⟩, (some []), [.fr 30], 0, false⟩,
    ⟨⟨none, (some 192), .inl (.mv (.s 8))⟩, (some []), [], 0, false⟩,
    ⟨⟨none, (some 193), .inl (.mv (.s 10))⟩, (some []), [], 0, false⟩,
    ⟨⟨none, (some 194), .inl (.ias 1 (.s 192) (.s 193))⟩, (some []), [], 6, false⟩,
    ⟨⟨none, (some 195), .inl (.ld false 1 (.s 194))⟩, (some []), [.fr 30], 14, false⟩,
    ⟨⟨none, (some 196), .inl (.mv (.s 8))⟩, (some []), [], 0, false⟩,
    ⟨⟨none, (some 197), .inl (.mv (.s 8))⟩, (some []), [], 0, false⟩,
    ⟨⟨none, (some 198), .inl (.len (.s 197))⟩, (some []), [], 64, false⟩,
    ⟨⟨none, (some 199), .inl (.bin .sub (.s 198) (.c (.int .i64 1)))⟩, (some []), [], 192, false⟩,
    ⟨⟨none, (some 200), .inl (.ias 1 (.s 196) (.s 199))⟩, (some []), [], 480, false⟩,
    ⟨⟨none, (some 201), .inl (.ld false 1 (.s 200))⟩, (some []), [.fr 30], 992, false⟩,
    ⟨⟨none, (some 202), .inr (.fn 33 [(.s 191), (.s 195), (.s 201)])⟩, (some []), [.fr 30], 2047, false⟩,
    ⟨⟨none, (some 190), .inl (.mv (.s 202))⟩, (some []), [], 4095, false⟩,
    ⟨⟨none, (some 203), .inl (.ex (.s 190) 0)⟩, (some []), [], 8191, false⟩,
    ⟨⟨none, (some 204), .inl (.ex (.s 190) 1)⟩, (some []), [], 8191, false⟩,
    ⟨⟨none, (some 30), .inl (.alloc 54 [(.int .i64 0), (.int .i64 0), (.int .i64 0), (.int .i64 0)])⟩, (some [.fr 30]), [], 0, false⟩,
    ⟨⟨none, none, .inl (.st 4 (.s 30) (.s 203))⟩, (some [.fr 30]), [], 49151, false⟩,
    ⟨⟨none, (some 31), .inl (.mv (.s 204))⟩, (some []), [], 131071, false⟩])
  (.seq (.region [⟨none, (some 205), .inl (.mv (.s 7))⟩,
    ⟨none, (some 206), .inl (.mv (.s 205))⟩,
    ⟨(some (206, true)), (some 207), .inl (.mv (.s 22))⟩,
    ⟨(some (206, true)), (some 208), .inl (.bin .eql (.s 207) (.c (.int .i64 0)))⟩,
    ⟨none, (some 209), .inl (.pick (.s 206) (.s 208) (.c (.bool false)))⟩,
    ⟨none, (some 210), .inl (.mv (.s 209))⟩,
    ⟨(some (210, true)), (some 211), .inl (.mv (.s 23))⟩,
    ⟨none, (some 212), .inl (.pick (.s 210) (.s 211) (.c (.bool false)))⟩,
    ⟨none, (some 213), .inl (.mv (.s 212))⟩,
    ⟨(some (213, true)), (some 214), .inl (.mv (.s 25))⟩,
    ⟨(some (213, true)), (some 215), .inl (.bin .eql (.s 214) (.c (.int .i64 0)))⟩,
    ⟨none, (some 216), .inl (.pick (.s 213) (.s 215) (.c (.bool false)))⟩,
    ⟨none, (some 217), .inl (.mv (.s 216))⟩,
    ⟨(some (217, true)), (some 218), .inl (.mv (.s 27))⟩,
    ⟨(some (217, true)), (some 219), .inl (.bin .eql (.s 218) (.c (.int .i64 0)))⟩,
    ⟨none, (some 220), .inl (.pick (.s 217) (.s 219) (.c (.bool false)))⟩,
    ⟨none, (some 221), .inl (.mv (.s 220))⟩,
    ⟨(some (221, true)), (some 222), .inl (.mv (.s 29))⟩,
    ⟨(some (221, true)), (some 223), .inl (.bin .eql (.s 222) (.c (.int .i64 0)))⟩,
    ⟨none, (some 224), .inl (.pick (.s 221) (.s 223) (.c (.bool false)))⟩,
    ⟨none, (some 225), .inl (.mv (.s 224))⟩,
    ⟨(some (225, true)), (some 226), .inl (.mv (.s 31))⟩,
    ⟨(some (225, true)), (some 227), .inl (.bin .eql (.s 226) (.c (.int .i64 0)))⟩,
    ⟨none, (some 228), .inl (.pick (.s 225) (.s 227) (.c (.bool false)))⟩,
    ⟨none, (some 229), .inl (.mv (.s 228))⟩,
    ⟨(some (229, true)), (some 230), .inl (.ld true 4 (.s 24))⟩,
    ⟨(some (229, true)), (some 231), .inl (.ld true 4 (.s 26))⟩,
    ⟨(some (229, true)), (some 232), .inl (.eq false (.cells [.int, .int, .int, .int]) (.s 230) (.s 231))⟩,
    ⟨none, (some 233), .inl (.pick (.s 229) (.s 232) (.c (.bool false)))⟩,
    ⟨none, (some 234), .inl (.mv (.s 233))⟩,
    ⟨(some (234, true)), (some 235), .inl (.ld true 4 (.s 28))⟩,
    ⟨(some (234, true)), (some 236), .inl (.ld true 4 (.s 30))⟩,
    ⟨(some (234, true)), (some 237), .inl (.eq false (.cells [.int, .int, .int, .int]) (.s 235) (.s 236))⟩,
    ⟨none, (some 238), .inl (.pick (.s 234) (.s 237) (.c (.bool false)))⟩,
    ⟨none, (some 6), .inl (.mv (.s 238))⟩])
  (.ret)))))))))))))))))))))
def k9l0 : Cd :=
  .seq (.seq (.region [⟨none, (some 57), .inl (.mv (.s 12))⟩,
    ⟨none, (some 58), .inl (.mv (.s 8))⟩,
    ⟨none, (some 59), .inl (.len (.s 58))⟩,
    ⟨none, (some 60), .inl (.bin .lss (.s 57) (.s 59))⟩])
  (.cond (.s 60) (.skip)
  (.exit 0)))
  (.seq (.block 1 (.seq (.draw [⟨⟨none, (some 64), .inl (.ld true 4 (.s 3))⟩, (some []), [.fr 13], 0, false⟩,
    ⟨⟨none, (some 65), .inl (.mv (.s 8))⟩, (some []), [], 0, false⟩,
    ⟨⟨none, (some 66), .inl (.mv (.s 12))⟩, (some []), [], 0, false⟩,
    ⟨⟨none, (some 67), .inl (.ias 4 (.s 65) (.s 66))⟩, (some []), [], 6, false⟩,
    ⟨⟨none, (some 68), .inl (.fa (.s 67) 0)⟩, (some []), [], 14, false⟩,
    ⟨⟨none, (some 69), .inl (.ld false 1 (.s 68))⟩, (some []), [.fr 13], 30, false⟩,
    ⟨⟨none, (some 70), .inl (.mv (.s 8))⟩, (some []), [], 0, false⟩,
    ⟨⟨none, (some 71), .inl (.mv (.s 12))⟩, (some []), [], 0, false⟩,
    ⟨⟨none, (some 72), .inl (.ias 4 (.s 70) (.s 71))⟩, (some []), [], 192, false⟩,
    ⟨⟨none, (some 73), .inl (.fa (.s 72) 1)⟩, (some []), [], 448, false⟩,
    ⟨⟨none, (some 74), .inl (.ld false 1 (.s 73))⟩, (some []), [.fr 13], 960, false⟩,
    ⟨⟨none, (some 75), .inr (.fn 33 [(.s 64), (.s 69), (.s 74)])⟩, (some []), [.fr 13], 2047, false⟩,
    ⟨⟨none, (some 63), .inl (.mv (.s 75))⟩, (some []), [], 4095, false⟩,
    ⟨⟨none, (some 76), .inl (.ex (.s 63) 0)⟩, (some []), [], 8191, false⟩,
    ⟨⟨none, (some 77), .inl (.ex (.s 63) 1)⟩, (some []), [], 8191, false⟩,
    ⟨⟨none, (some 13), .inl (.alloc 54 [(.int .i64 0), (.int .i64 0), (.int .i64 0), (.int .i64 0)])⟩, (some [.fr 13]), [], 0, false⟩,
    ⟨⟨none, none, .inl (.st 4 (.s 13) (.s 76))⟩, (some [.fr 13]), [], 49151, false⟩,
    ⟨⟨none, (some 14), .inl (.mv (.s 77))⟩, (some []), [], 131071, false⟩])
  (.seq (.draw [⟨⟨none, (some 79), .inl (.ld true 4 (.s 4))⟩, (some []), [.fr 15], 0, false⟩,
    ⟨⟨none, (some 80), .inl (.mv (.s 8))⟩, (some []), [], 0, false⟩,
    ⟨⟨none, (some 81), .inl (.mv (.s 12))⟩, (some []), [], 0, false⟩,
    ⟨⟨none, (some 82), .inl (.ias 4 (.s 80) (.s 81))⟩, (some []), [], 6, false⟩,
    ⟨⟨none, (some 83), .inl (.fa (.s 82) 0)⟩, (some []), [], 14, false⟩,
    ⟨⟨none, (some 84), .inl (.ld false 1 (.s 83))⟩, (some []), [.fr 15], 30, false⟩,
    ⟨⟨none, (some 85), .inl (.mv (.s 8))⟩, (some []), [], 0, false⟩,
    ⟨⟨none, (some 86), .inl (.mv (.s 12))⟩, (some []), [], 0, false⟩,
    ⟨⟨none, (some 87), .inl (.ias 4 (.s 85) (.s 86))⟩, (some []), [], 192, false⟩,
    ⟨⟨none, (some 88), .inl (.fa (.s 87) 1)⟩, (some []), [], 448, false⟩,
    ⟨⟨none, (some 89), .inl (.ld false 1 (.s 88))⟩, (some []), [.fr 15], 960, false⟩,
    ⟨⟨none, (some 90), .inr (.fn 33 [(.s 79), (.s 84), (.s 89)])⟩, (some []), [.fr 15], 2047, false⟩,
    ⟨⟨none, (some 78), .inl (.mv (.s 90))⟩, (some []), [], 4095, false⟩,
    ⟨⟨none, (some 91), .inl (.ex (.s 78) 0)⟩, (some []), [], 8191, false⟩,
    ⟨⟨none, (some 92), .inl (.ex (.s 78) 1)⟩, (some []), [], 8191, false⟩,
    ⟨⟨none, (some 15), .inl (.alloc 54 [(.int .i64 0), (.int .i64 0), (.int .i64 0), (.int .i64 0)])⟩, (some [.fr 15]), [], 0, false⟩,
    ⟨⟨none, none, .inl (.st 4 (.s 15) (.s 91))⟩, (some [.fr 15]), [], 49151, false⟩,
    ⟨⟨none, (some 16), .inl (.mv (.s 92))⟩, (some []), [], 131071, false⟩])
  (.seq (.seq (.region [⟨none, (some 93), .inl (.fa (.s 13) 2)⟩,
    ⟨none, (some 94), .inl (.ld false 1 (.s 93))⟩,
    ⟨none, (some 95), .inl (.bin .lss (.s 94) (.c (.int .i64 0)))⟩,
    ⟨none, (some 96), .inl (.mv (.s 95))⟩,
    ⟨(some (96, false)), (some 97), .inl (.fa (.s 13) 2)⟩,
    ⟨(some (96, false)), (some 98), .inl (.ld false 1 (.s 97))⟩,
    ⟨(some (96, false)), (some 99), .inl (.fa (.s 13) 3)⟩,
    ⟨(some (96, false)), (some 100), .inl (.ld false 1 (.s 99))⟩,
    ⟨(some (96, false)), (some 101), .inl (.bin .gtr (.s 98) (.s 100))⟩,
    ⟨none, (some 102), .inl (.pick (.s 96) (.c (.bool true)) (.s 101))⟩,
    ⟨none, (some 103), .inl (.mv (.s 102))⟩,
    ⟨(some (103, false)), (some 104), .inl (.fa (.s 13) 3)⟩,
    ⟨(some (103, false)), (some 105), .inl (.ld false 1 (.s 104))⟩,
    ⟨(some (103, false)), (some 106), .inl (.bin .gtr (.s 105) (.c (.int .i64 100000)))⟩,
    ⟨none, (some 107), .inl (.pick (.s 103) (.c (.bool true)) (.s 106))⟩])
  (.cond (.s 107) (.seq (.region [⟨none, (some 6), .inl (.mv (.c (.bool false)))⟩])
   (.ret))
  (.skip)))
  (.seq (.draw [⟨⟨none, (some 108), .inl (.fa (.s 13) 2)⟩, (some []), [], 0, false⟩,
    ⟨⟨none, (some 109), .inl (.ld false 1 (.s 108))⟩, (some []), [], 1, false⟩,
    ⟨⟨none, (some 110), .inl (.mv (.s 2))⟩, (some []), [], 0, false⟩,
    ⟨⟨none, (some 111), .inl (.fa (.s 13) 3)⟩, (some []), [], 0, false⟩,
    ⟨⟨none, (some 112), .inl (.ld false 1 (.s 111))⟩, (some []), [], 8, false⟩,
    ⟨⟨none, (some 113), .inl (.fa (.s 13) 2)⟩, (some []), [], 0, false⟩,
    ⟨⟨none, (some 114), .inl (.ld false 1 (.s 113))⟩, (some []), [], 32, false⟩,
    ⟨⟨none, (some 115), .inl (.bin .sub (.s 112) (.s 114))⟩, (some []), [], 120, false⟩,
    ⟨⟨none, (some 116), .inl (.bin .add (.s 115) (.c (.int .i64 1)))⟩, (some []), [], 248, false⟩,
    ⟨⟨none, (some 117), .inr (.fn 31 [(.s 110), (.s 116)])⟩, (some []), [], 508, false⟩,
    ⟨⟨none, (some 118), .inl (.bin .add (.s 109) (.s 117))⟩, (some []), [], 1023, false⟩,
    ⟨⟨none, (some 17), .inl (.mv (.s 118))⟩, (some []), [], 2047, false⟩])
  (.seq (.region [⟨none, (some 119), .inl (.mv (.s 17))⟩,
    ⟨none, (some 120), .inl (.fa (.s 15) 2)⟩,
    ⟨none, (some 121), .inl (.ld false 1 (.s 120))⟩,
    ⟨none, (some 122), .inl (.bin .geq (.s 119) (.s 121))⟩,
    ⟨none, (some 123), .inl (.mv (.s 122))⟩,
    ⟨(some (123, true)), (some 124), .inl (.mv (.s 17))⟩,
    ⟨(some (123, true)), (some 125), .inl (.fa (.s 15) 3)⟩,
    ⟨(some (123, true)), (some 126), .inl (.ld false 1 (.s 125))⟩,
    ⟨(some (123, true)), (some 127), .inl (.bin .leq (.s 124) (.s 126))⟩,
    ⟨none, (some 128), .inl (.pick (.s 123) (.s 127) (.c (.bool false)))⟩,
    ⟨none, (some 18), .inl (.mv (.s 128))⟩])
  (.seq (.region [⟨none, (some 129), .inl (.mv (.s 14))⟩,
    ⟨none, (some 130), .inl (.bin .neq (.s 129) (.c (.int .i64 0)))⟩,
    ⟨none, (some 131), .inl (.mv (.s 130))⟩,
    ⟨(some (131, false)), (some 132), .inl (.mv (.s 16))⟩,
    ⟨(some (131, false)), (some 133), .inl (.bin .neq (.s 132) (.c (.int .i64 0)))⟩,
    ⟨none, (some 134), .inl (.pick (.s 131) (.c (.bool true)) (.s 133))⟩,
    ⟨none, (some 135), .inl (.mv (.s 134))⟩,
    ⟨(some (135, false)), (some 136), .inl (.mv (.s 18))⟩,
    ⟨(some (135, false)), (some 137), .inl (.mv (.s 17))⟩,
    ⟨(some (135, false)), (some 138), .inl (.mv (.s 8))⟩,
    ⟨(some (135, false)), (some 139), .inl (.mv (.s 12))⟩,
    ⟨(some (135, false)), (some 140), .inl (.ias 4 (.s 138) (.s 139))⟩,
    ⟨(some (135, false)), (some 141), .inl (.fa (.s 140) 2)⟩,
    ⟨(some (135, false)), (some 142), .inl (.ld false 1 (.s 141))⟩,
    ⟨(some (135, false)), (some 143), .inl (.bin .geq (.s 137) (.s 142))⟩,
    ⟨(some (135, false)), (some 144), .inl (.mv (.s 143))⟩,
    ⟨(some (144, true)), (some 145), .inl (.mv (.s 17))⟩,
    ⟨(some (144, true)), (some 146), .inl (.mv (.s 8))⟩,
    ⟨(some (144, true)), (some 147), .inl (.mv (.s 12))⟩,
    ⟨(some (144, true)), (some 148), .inl (.ias 4 (.s 146) (.s 147))⟩,
    ⟨(some (144, true)), (some 149), .inl (.fa (.s 148) 3)⟩,
    ⟨(some (144, true)), (some 150), .inl (.ld false 1 (.s 149))⟩,
    ⟨(some (144, true)), (some 151), .inl (.bin .leq (.s 145) (.s 150))⟩,
    ⟨(some (135, false)), (some 152), .inl (.pick (.s 144) (.s 151) (.c (.bool false)))⟩,
    ⟨(some (135, false)), (some 153), .inl (.eq true .bool (.s 136) (.s 152))⟩,
    ⟨none, (some 154), .inl (.pick (.s 135) (.c (.bool true)) (.s 153))⟩])
  (.cond (.s 154) (.seq (.region [⟨none, (some 6), .inl (.mv (.c (.bool false)))⟩])
   (.ret))
  (.skip)))))))))
  (.region [⟨none, (some 61), .inl (.mv (.s 12))⟩,
    ⟨none, (some 62), .inl (.bin .add (.s 61) (.c (.int .i64 1)))⟩,
    ⟨none, (some 12), .inl (.mv (.s 62))⟩]))
def k9l1 : Cd :=
  .seq (.seq (.region [⟨none, (some 155), .inl (.mv (.s 19))⟩,
    ⟨none, (some 156), .inl (.mv (.s 10))⟩,
    ⟨none, (some 157), .inl (.len (.s 156))⟩,
    ⟨none, (some 158), .inl (.bin .lss (.s 155) (.s 157))⟩])
  (.cond (.s 158) (.skip)
  (.exit 2)))
  (.seq (.block 3 (.seq (.draw [⟨⟨none, (some 162), .inl (.ld true 4 (.s 3))⟩, (some []), [.fr 20], 0, false⟩,
    ⟨⟨none, (some 163), .inl (.mv (.s 10))⟩, (some []), [], 0, false⟩,
    ⟨⟨none, (some 164), .inl (.mv (.s 19))⟩, (some []), [], 0, false⟩,
    ⟨⟨none, (some 165), .inl (.ias 4 (.s 163) (.s 164))⟩, (some []), [], 6, false⟩,
    ⟨⟨none, (some 166), .inl (.fa (.s 165) 0)⟩, (some []), [], 14, false⟩,
    ⟨⟨none, (some 167), .inl (.ld false 1 (.s 166))⟩, (some []), [.fr 20], 30, false⟩,
    ⟨⟨none, (some 168), .inl (.mv (.s 10))⟩, (some []), [], 0, false⟩,
    ⟨⟨none, (some 169), .inl (.mv (.s 19))⟩, (some []), [], 0, false⟩,
    ⟨⟨none, (some 170), .inl (.ias 4 (.s 168) (.s 169))⟩, (some []), [], 192, false⟩,
    ⟨⟨none, (some 171), .inl (.fa (.s 170) 1)⟩, (some []), [], 448, false⟩,
    ⟨⟨none, (some 172), .inl (.ld false 1 (.s 171))⟩, (some []), [.fr 20], 960, false⟩,
    ⟨⟨none, (some 173), .inr (.fn 33 [(.s 162), (.s 167), (.s 172)])⟩, (some []), [.fr 20], 2047, false⟩,
    ⟨⟨none, (some 161), .inl (.mv (.s 173))⟩, (some []), [], 4095, false⟩,
    ⟨⟨none, (some 174), .inl (.ex (.s 161) 0)⟩, (some []), [], 8191, false⟩,
    ⟨⟨none, (some 175), .inl (.ex (.s 161) 1)⟩, (some []), [], 8191, false⟩,
    ⟨⟨none, (some 20), .inl (.alloc 54 [(.int .i64 0), (.int .i64 0), (.int .i64 0), (.int .i64 0)])⟩, (some [.fr 20]), [], 0, false⟩,
    ⟨⟨none, none, .inl (.st 4 (.s 20) (.s 174))⟩, (some [.fr 20]), [], 49151, false⟩,
    ⟨⟨none, (some 21), .inl (.mv (.s 175))⟩, (some []), [], 131071, false⟩])
  (.seq (.draw [⟨⟨none, (some 177), .inl (.ld true 4 (.s 4))⟩, (some []), [.fr 22], 0, false⟩,
    ⟨⟨none, (some 178), .inl (.mv (.s 10))⟩, (some []), [], 0, false⟩,
    ⟨⟨none, (some 179), .inl (.mv (.s 19))⟩, (some []), [], 0, false⟩,
    ⟨⟨none, (some 180), .inl (.ias 4 (.s 178) (.s 179))⟩, (some []), [], 6, false⟩,
    ⟨⟨none, (some 181), .inl (.fa (.s 180) 0)⟩, (some []), [], 14, false⟩,
    ⟨⟨none, (some 182), .inl (.ld false 1 (.s 181))⟩, (some []), [.fr 22], 30, false⟩,
    ⟨⟨none, (some 183), .inl (.mv (.s 10))⟩, (some []), [], 0, false⟩,
    ⟨⟨none, (some 184), .inl (.mv (.s 19))⟩, (some []), [], 0, false⟩,
    ⟨⟨none, (some 185), .inl (.ias 4 (.s 183) (.s 184))⟩, (some []), [], 192, false⟩,
    ⟨⟨none, (some 186), .inl (.fa (.s 185) 1)⟩, (some []), [], 448, false⟩,
    ⟨⟨none, (some 187), .inl (.ld false 1 (.s 186))⟩, (some []), [.fr 22], 960, false⟩,
    ⟨⟨none, (some 188), .inr (.fn 33 [(.s 177), (.s 182), (.s 187)])⟩, (some []), [.fr 22], 2047, false⟩,
    ⟨⟨none, (some 176), .inl (.mv (.s 188))⟩, (some []), [], 4095, false⟩,
    ⟨⟨none, (some 189), .inl (.ex (.s 176) 0)⟩, (some []), [], 8191, false⟩,
    ⟨⟨none, (some 190), .inl (.ex (.s 176) 1)⟩, (some []), [], 8191, false⟩,
    ⟨⟨none, (some 22), .inl (.alloc 54 [(.int .i64 0), (.int .i64 0), (.int .i64 0), (.int .i64 0)])⟩, (some [.fr 22]), [], 0, false⟩,
    ⟨⟨none, none, .inl (.st 4 (.s 22) (.s 189))⟩, (some [.fr 22]), [], 49151, false⟩,
    ⟨⟨none, (some 23), .inl (.mv (.s 190))⟩, (some []), [], 131071, false⟩])
  (.seq (.region [⟨none, (some 191), .inl (.mv (.s 21))⟩,
    ⟨none, (some 192), .inl (.bin .neq (.s 191) (.c (.int .i64 0)))⟩,
    ⟨none, (some 193), .inl (.mv (.s 192))⟩,
    ⟨(some (193, false)), (some 194), .inl (.mv (.s 23))⟩,
    ⟨(some (193, false)), (some 195), .inl (.bin .neq (.s 194) (.c (.int .i64 0)))⟩,
    ⟨none, (some 196), .inl (.pick (.s 193) (.c (.bool true)) (.s 195))⟩,
    ⟨none, (some 197), .inl (.mv (.s 196))⟩,
    ⟨(some (197, false)), (some 198), .inl (.fa (.s 20) 3)⟩,
    ⟨(some (197, false)), (some 199), .inl (.ld false 1 (.s 198))⟩,
    ⟨(some (197, false)), (some 200), .inl (.fa (.s 22) 2)⟩,
    ⟨(some (197, false)), (some 201), .inl (.ld false 1 (.s 200))⟩,
    ⟨(some (197, false)), (some 202), .inl (.bin .geq (.s 199) (.s 201))⟩,
    ⟨(some (197, false)), (some 203), .inl (.mv (.s 202))⟩,
    ⟨(some (203, true)), (some 204), .inl (.fa (.s 22) 3)⟩,
    ⟨(some (203, true)), (some 205), .inl (.ld false 1 (.s 204))⟩,
    ⟨(some (203, true)), (some 206), .inl (.fa (.s 20) 2)⟩,
    ⟨(some (203, true)), (some 207), .inl (.ld false 1 (.s 206))⟩,
    ⟨(some (203, true)), (some 208), .inl (.bin .geq (.s 205) (.s 207))⟩,
    ⟨(some (197, false)), (some 209), .inl (.pick (.s 203) (.s 208) (.c (.bool false)))⟩,
    ⟨none, (some 210), .inl (.pick (.s 197) (.c (.bool true)) (.s 209))⟩])
  (.cond (.s 210) (.seq (.region [⟨none, (some 6), .inl (.mv (.c (.bool false)))⟩])
   (.ret))
  (.skip))))))
  (.region [⟨none, (some 159), .inl (.mv (.s 19))⟩,
    ⟨none, (some 160), .inl (.bin .add (.s 159) (.c (.int .i64 1)))⟩,
    ⟨none, (some 19), .inl (.mv (.s 160))⟩]))
/-- gyttja/gyttjalaw01.SheetTogether -/
def k9 : Cd :=
  .seq (.region [⟨none, (some 3), .inl (.box 25 4 (.s 0))⟩,
    ⟨none, (some 4), .inl (.box 25 4 (.s 1))⟩,
    ⟨none, (some 6), .inl (.mv (.c (.bool false)))⟩])
  (.seq (.region [⟨none, (some 24), .inr (.fn 10 [])⟩,
    ⟨none, (some 7), .inl (.mv (.s 24))⟩])
  (.seq (.region [⟨none, (some 25), .inl (.ld true 4 (.s 3))⟩,
    ⟨none, (some 26), .inr (.fn 23 [(.s 25)])⟩,
    ⟨none, none, .inl (.st 4 (.s 3) (.s 26))⟩])
  (.seq (.region [⟨none, (some 27), .inl (.ld true 4 (.s 4))⟩,
    ⟨none, (some 28), .inr (.fn 23 [(.s 27)])⟩,
    ⟨none, none, .inl (.st 4 (.s 4) (.s 28))⟩])
  (.seq (.region [⟨none, (some 29), .inl (.fa (.s 3) 2)⟩,
    ⟨none, (some 30), .inl (.ld false 1 (.s 29))⟩,
    ⟨none, (some 31), .inl (.fa (.s 4) 2)⟩,
    ⟨none, none, .inl (.st 1 (.s 31) (.s 30))⟩])
  (.seq (.region [⟨none, (some 33), .inl (.ld true 4 (.s 3))⟩,
    ⟨none, (some 34), .inl (.ld true 4 (.s 4))⟩,
    ⟨none, (some 35), .inr (.fn 24 [(.s 33), (.s 34)])⟩,
    ⟨none, (some 32), .inl (.mv (.s 35))⟩,
    ⟨none, (some 36), .inl (.ex (.s 32) 0)⟩,
    ⟨none, (some 37), .inl (.ex (.s 32) 1)⟩,
    ⟨none, (some 8), .inl (.mv (.s 36))⟩,
    ⟨none, (some 9), .inl (.mv (.s 37))⟩])
  (.seq (.region [⟨none, (some 39), .inl (.ld true 4 (.s 3))⟩,
    ⟨none, (some 40), .inl (.ld true 4 (.s 4))⟩,
    ⟨none, (some 41), .inr (.fn 26 [(.s 39), (.s 40)])⟩,
    ⟨none, (some 38), .inl (.mv (.s 41))⟩,
    ⟨none, (some 42), .inl (.ex (.s 38) 0)⟩,
    ⟨none, (some 43), .inl (.ex (.s 38) 1)⟩,
    ⟨none, (some 10), .inl (.mv (.s 42))⟩,
    ⟨none, (some 11), .inl (.mv (.s 43))⟩])
  (.seq (.seq (.region [⟨none, (some 44), .inl (.mv (.s 9))⟩,
    ⟨none, (some 45), .inl (.mv (.s 11))⟩,
    ⟨none, (some 46), .inl (.bin .neq (.s 44) (.s 45))⟩,
    ⟨none, (some 47), .inl (.mv (.s 46))⟩,
    ⟨(some (47, false)), (some 48), .inl (.mv (.s 9))⟩,
    ⟨(some (47, false)), (some 49), .inl (.bin .neq (.s 48) (.c (.int .i64 0)))⟩,
    ⟨none, (some 50), .inl (.pick (.s 47) (.c (.bool true)) (.s 49))⟩])
  (.cond (.s 50) (.seq (.region [⟨none, (some 51), .inl (.mv (.s 7))⟩,
     ⟨none, (some 52), .inl (.mv (.s 51))⟩,
     ⟨(some (52, true)), (some 53), .inl (.mv (.s 9))⟩,
     ⟨(some (52, true)), (some 54), .inl (.mv (.s 11))⟩,
     ⟨(some (52, true)), (some 55), .inl (.bin .eql (.s 53) (.s 54))⟩,
     ⟨none, (some 56), .inl (.pick (.s 52) (.s 55) (.c (.bool false)))⟩,
     ⟨none, (some 6), .inl (.mv (.s 56))⟩])
   (.ret))
  (.skip)))
  (.seq (.seq (.region [⟨none, (some 12), .inl (.mv (.c (.int .i64 0)))⟩])
  (.block 0 (.loop k9l0)))
  (.seq (.seq (.region [⟨none, (some 19), .inl (.mv (.c (.int .i64 0)))⟩])
  (.block 2 (.loop k9l1)))
  (.seq (.region [⟨none, (some 211), .inl (.mv (.s 7))⟩,
    ⟨none, (some 6), .inl (.mv (.s 211))⟩])
  (.ret)))))))))))
/-- gyttja/gyttjalaw01.sane -/
def k10 : Cd :=
  .seq (.region [⟨none, (some 0), .inl (.mv (.c (.bool false)))⟩])
  (.seq (.region [⟨none, (some 11), .inr (.fn 34 [])⟩,
    ⟨none, (some 1), .inl (.alloc 25 [(.int .i64 0), (.int .i64 0), (.int .i64 0), (.slice none 0 0)])⟩,
    ⟨none, none, .inl (.st 4 (.s 1) (.s 11))⟩])
  (.seq (.region [⟨none, (some 13), .inl (.ld true 4 (.s 1))⟩,
    ⟨none, (some 14), .inr (.fn 33 [(.s 13), (.c (.int .i64 138)), (.c (.int .i64 134))])⟩,
    ⟨none, (some 12), .inl (.mv (.s 14))⟩,
    ⟨none, (some 15), .inl (.ex (.s 12) 0)⟩,
    ⟨none, (some 16), .inl (.ex (.s 12) 1)⟩,
    ⟨none, (some 2), .inl (.alloc 54 [(.int .i64 0), (.int .i64 0), (.int .i64 0), (.int .i64 0)])⟩,
    ⟨none, none, .inl (.st 4 (.s 2) (.s 15))⟩,
    ⟨none, (some 3), .inl (.mv (.s 16))⟩])
  (.seq (.region [⟨none, (some 18), .inl (.fa (.s 1) 3)⟩,
    ⟨none, (some 19), .inl (.ld false 1 (.s 18))⟩,
    ⟨none, (some 20), .inl (.slc 3 (.s 19) (some (.c (.int .i64 1))) (some (.c (.int .i64 3))) none)⟩,
    ⟨none, (some 21), .inl (.bst 3 1 1 [(.int .i64 0)] [(0, (.c (.int .i64 1)))])⟩,
    ⟨none, (some 22), .inr (.fn 35 [(.s 20), (.s 21)])⟩,
    ⟨none, (some 17), .inl (.mv (.s 22))⟩,
    ⟨none, (some 23), .inl (.ex (.s 17) 0)⟩,
    ⟨none, (some 24), .inl (.ex (.s 17) 1)⟩,
    ⟨none, (some 4), .inl (.mv (.s 23))⟩,
    ⟨none, (some 5), .inl (.mv (.s 24))⟩])
  (.seq (.region [⟨none, (some 26), .inr (.fn 11 [(.c (.string ⟨#[115, 104, 101, 101, 116, 32, 49, 32, 114, 101, 97, 100, 101, 114, 32, 50, 32, 99, 111, 114, 101, 32, 51, 10, 10, 121, 101, 97, 114, 115, 32, 52]⟩))])⟩,
    ⟨none, (some 25), .inl (.mv (.s 26))⟩,
    ⟨none, (some 27), .inl (.ex (.s 25) 0)⟩,
    ⟨none, (some 28), .inl (.ex (.s 25) 1)⟩,
    ⟨none, (some 29), .inl (.ex (.s 25) 2)⟩,
    ⟨none, (some 6), .inl (.alloc 25 [(.int .i64 0), (.int .i64 0), (.int .i64 0), (.slice none 0 0)])⟩,
    ⟨none, none, .inl (.st 4 (.s 6) (.s 27))⟩,
    ⟨none, (some 7), .inl (.mv (.s 28))⟩,
    ⟨none, (some 8), .inl (.mv (.s 29))⟩])
  (.seq (.region [⟨none, (some 31), .inl (.fa (.s 1) 3)⟩,
    ⟨none, (some 32), .inl (.ld false 1 (.s 31))⟩,
    ⟨none, (some 33), .inl (.slc 3 (.s 32) (some (.c (.int .i64 4))) (some (.c (.int .i64 7))) none)⟩,
    ⟨none, (some 34), .inr (.fn 36 [(.s 33)])⟩,
    ⟨none, (some 30), .inl (.mv (.s 34))⟩,
    ⟨none, (some 35), .inl (.ex (.s 30) 0)⟩,
    ⟨none, (some 36), .inl (.ex (.s 30) 1)⟩,
    ⟨none, (some 9), .inl (.mv (.s 35))⟩,
    ⟨none, (some 10), .inl (.mv (.s 36))⟩])
  (.seq (.region [⟨none, (some 37), .inl (.mv (.s 3))⟩,
    ⟨none, (some 38), .inl (.bin .eql (.s 37) (.c (.int .i64 0)))⟩,
    ⟨none, (some 39), .inl (.mv (.s 38))⟩,
    ⟨(some (39, true)), (some 40), .inl (.ld true 4 (.s 2))⟩,
    ⟨(some (39, true)), (some 41), .inl (.bld [(.int .i64 0), (.int .i64 0), (.int .i64 0), (.int .i64 0)] [(0, 1, (.c (.int .i64 138))), (1, 1, (.c (.int .i64 134))), (2, 1, (.c (.int .i64 (-8)))), (3, 1, (.c (.int .i64 (-3))))])⟩,
    ⟨(some (39, true)), (some 42), .inl (.eq false (.cells [.int, .int, .int, .int]) (.s 40) (.s 41))⟩,
    ⟨none, (some 43), .inl (.pick (.s 39) (.s 42) (.c (.bool false)))⟩,
    ⟨none, (some 44), .inl (.mv (.s 43))⟩,
    ⟨(some (44, true)), (some 45), .inl (.mv (.s 5))⟩,
    ⟨(some (44, true)), (some 46), .inl (.bin .eql (.s 45) (.c (.int .i64 0)))⟩,
    ⟨none, (some 47), .inl (.pick (.s 44) (.s 46) (.c (.bool false)))⟩,
    ⟨none, (some 48), .inl (.mv (.s 47))⟩,
    ⟨(some (48, true)), (some 49), .inl (.mv (.s 4))⟩,
    ⟨(some (48, true)), (some 50), .inl (.len (.s 49))⟩,
    ⟨(some (48, true)), (some 51), .inl (.bin .eql (.s 50) (.c (.int .i64 3)))⟩,
    ⟨none, (some 52), .inl (.pick (.s 48) (.s 51) (.c (.bool false)))⟩,
    ⟨none, (some 53), .inl (.mv (.s 52))⟩,
    ⟨(some (53, true)), (some 54), .inl (.mv (.s 4))⟩,
    ⟨(some (53, true)), (some 55), .inl (.ias 1 (.s 54) (.c (.int .i64 0)))⟩,
    ⟨(some (53, true)), (some 56), .inl (.ld false 1 (.s 55))⟩,
    ⟨(some (53, true)), (some 57), .inl (.bin .eql (.s 56) (.c (.int .i64 120)))⟩,
    ⟨none, (some 58), .inl (.pick (.s 53) (.s 57) (.c (.bool false)))⟩,
    ⟨none, (some 59), .inl (.mv (.s 58))⟩,
    ⟨(some (59, true)), (some 60), .inl (.mv (.s 4))⟩,
    ⟨(some (59, true)), (some 61), .inl (.ias 1 (.s 60) (.c (.int .i64 2)))⟩,
    ⟨(some (59, true)), (some 62), .inl (.ld false 1 (.s 61))⟩,
    ⟨(some (59, true)), (some 63), .inl (.bin .eql (.s 62) (.c (.int .i64 95)))⟩,
    ⟨none, (some 64), .inl (.pick (.s 59) (.s 63) (.c (.bool false)))⟩,
    ⟨none, (some 65), .inl (.mv (.s 64))⟩,
    ⟨(some (65, true)), (some 66), .inl (.mv (.s 8))⟩,
    ⟨(some (65, true)), (some 67), .inl (.bin .eql (.s 66) (.c (.int .i64 12)))⟩,
    ⟨none, (some 68), .inl (.pick (.s 65) (.s 67) (.c (.bool false)))⟩,
    ⟨none, (some 69), .inl (.mv (.s 68))⟩,
    ⟨(some (69, true)), (some 70), .inl (.mv (.s 7))⟩,
    ⟨(some (69, true)), (some 71), .inl (.bin .eql (.s 70) (.c (.int .i64 3)))⟩,
    ⟨none, (some 72), .inl (.pick (.s 69) (.s 71) (.c (.bool false)))⟩,
    ⟨none, (some 73), .inl (.mv (.s 72))⟩,
    ⟨(some (73, true)), (some 74), .inl (.mv (.s 10))⟩,
    ⟨(some (73, true)), (some 75), .inl (.bin .eql (.s 74) (.c (.int .i64 13)))⟩,
    ⟨none, (some 76), .inl (.pick (.s 73) (.s 75) (.c (.bool false)))⟩,
    ⟨none, (some 77), .inl (.mv (.s 76))⟩,
    ⟨(some (77, true)), (some 78), .inr (.fn 37 [(.c (.int .i64 2)), (.c (.int .i64 5))])⟩,
    ⟨(some (77, true)), (some 79), .inl (.bin .eql (.s 78) (.c (.int .i64 134)))⟩,
    ⟨none, (some 80), .inl (.pick (.s 77) (.s 79) (.c (.bool false)))⟩,
    ⟨none, (some 0), .inl (.mv (.s 80))⟩])
  (.ret)))))))
/-- gyttja/sheet.Parse -/
def k11 : Cd :=
  .seq (.region [⟨none, (some 2), .inl (.alloc 25 [(.int .i64 0), (.int .i64 0), (.int .i64 0), (.slice none 0 0)])⟩,
    ⟨none, (some 3), .inl (.alloc 3 [(.int .i64 0)])⟩,
    ⟨none, (some 4), .inl (.alloc 26 [(.int .i64 0)])⟩])
  (.seq (.region [⟨none, (some 5), .inl (.mkf (.func 38) [] [(.s 2), (.s 3), (.s 4)])⟩,
    ⟨none, none, .inr (.dfr (.s 5) [])⟩])
  (.seq (.seq (.region [⟨none, (some 6), .inl (.mv (.s 0))⟩,
    ⟨none, (some 7), .inl (.lens (.s 6))⟩,
    ⟨none, (some 8), .inl (.bin .gtr (.s 7) (.c (.int .i64 8000)))⟩])
  (.cond (.s 8) (.seq (.region [⟨none, (some 9), .inl (.bld [(.int .i64 0), (.int .i64 0), (.int .i64 0), (.slice none 0 0)] [])⟩,
     ⟨none, none, .inl (.st 4 (.s 2) (.s 9))⟩,
     ⟨none, none, .inl (.st 1 (.s 3) (.c (.int .i64 0)))⟩,
     ⟨none, none, .inl (.st 1 (.s 4) (.c (.int .i64 2)))⟩])
   (.ret))
  (.skip)))
  (.seq (.region [⟨none, (some 10), .inl (.mv (.s 0))⟩,
    ⟨none, (some 11), .inr (.fn 39 [(.s 10)])⟩,
    ⟨none, none, .inl (.st 4 (.s 2) (.s 11))⟩])
  (.seq (.seq (.region [⟨none, (some 12), .inl (.ld true 4 (.s 2))⟩,
    ⟨none, (some 13), .inr (.fn 40 [(.s 12)])⟩,
    ⟨none, none, .inl (.st 1 (.s 4) (.s 13))⟩])
  (.seq (.region [⟨none, (some 14), .inl (.ld false 1 (.s 4))⟩,
    ⟨none, (some 15), .inl (.bin .neq (.s 14) (.c (.int .i64 0)))⟩])
  (.cond (.s 15) (.seq (.draw [⟨⟨none, (some 16), .inl (.bld [(.int .i64 0), (.int .i64 0), (.int .i64 0), (.slice none 0 0)] [])⟩, (some []), [], 0, false⟩,
     ⟨⟨none, (some 17), .inl (.ld false 1 (.s 4))⟩, (some []), [.at 2, .at 3], 0, false⟩,
     ⟨⟨none, none, .inl (.st 4 (.s 2) (.s 16))⟩, (some [.at 2]), [], 1, false⟩,
     ⟨⟨none, none, .inl (.st 1 (.s 3) (.c (.int .i64 0)))⟩, (some [.at 3]), [], 5, false⟩,
     ⟨⟨none, none, .inl (.st 1 (.s 4) (.s 17))⟩, (some [.at 4]), [], 15, false⟩])
   (.ret))
  (.skip))))
  (.seq (.region [⟨none, (some 18), .inl (.ld true 4 (.s 2))⟩,
    ⟨none, none, .inl (.st 4 (.s 2) (.s 18))⟩,
    ⟨none, none, .inl (.st 1 (.s 3) (.c (.int .i64 0)))⟩,
    ⟨none, none, .inl (.st 1 (.s 4) (.c (.int .i64 0)))⟩])
  (.ret))))))
/-- gyttja/gyttjaref01.Same -/
def k13 : Cd :=
  .seq (.region [⟨none, (some 2), .inl (.box 25 4 (.s 0))⟩,
    ⟨none, (some 3), .inl (.box 25 4 (.s 1))⟩,
    ⟨none, (some 4), .inl (.mv (.c (.bool false)))⟩])
  (.seq (.region [⟨none, (some 6), .inl (.fa (.s 2) 3)⟩,
    ⟨none, (some 7), .inl (.ld false 1 (.s 6))⟩,
    ⟨none, (some 8), .inl (.fa (.s 3) 3)⟩,
    ⟨none, (some 9), .inl (.ld false 1 (.s 8))⟩,
    ⟨none, (some 10), .inr (.fn 22 [(.s 7), (.s 9)])⟩,
    ⟨none, (some 5), .inl (.mv (.s 10))⟩])
  (.seq (.region [⟨none, (some 11), .inl (.mv (.s 5))⟩,
    ⟨none, (some 12), .inl (.mv (.s 11))⟩,
    ⟨(some (12, true)), (some 13), .inl (.fa (.s 2) 0)⟩,
    ⟨(some (12, true)), (some 14), .inl (.ld false 1 (.s 13))⟩,
    ⟨(some (12, true)), (some 15), .inl (.fa (.s 3) 0)⟩,
    ⟨(some (12, true)), (some 16), .inl (.ld false 1 (.s 15))⟩,
    ⟨(some (12, true)), (some 17), .inl (.bin .eql (.s 14) (.s 16))⟩,
    ⟨none, (some 18), .inl (.pick (.s 12) (.s 17) (.c (.bool false)))⟩,
    ⟨none, (some 19), .inl (.mv (.s 18))⟩,
    ⟨(some (19, true)), (some 20), .inl (.fa (.s 2) 1)⟩,
    ⟨(some (19, true)), (some 21), .inl (.ld false 1 (.s 20))⟩,
    ⟨(some (19, true)), (some 22), .inl (.fa (.s 3) 1)⟩,
    ⟨(some (19, true)), (some 23), .inl (.ld false 1 (.s 22))⟩,
    ⟨(some (19, true)), (some 24), .inl (.bin .eql (.s 21) (.s 23))⟩,
    ⟨none, (some 25), .inl (.pick (.s 19) (.s 24) (.c (.bool false)))⟩,
    ⟨none, (some 26), .inl (.mv (.s 25))⟩,
    ⟨(some (26, true)), (some 27), .inl (.fa (.s 2) 2)⟩,
    ⟨(some (26, true)), (some 28), .inl (.ld false 1 (.s 27))⟩,
    ⟨(some (26, true)), (some 29), .inl (.fa (.s 3) 2)⟩,
    ⟨(some (26, true)), (some 30), .inl (.ld false 1 (.s 29))⟩,
    ⟨(some (26, true)), (some 31), .inl (.bin .eql (.s 28) (.s 30))⟩,
    ⟨none, (some 32), .inl (.pick (.s 26) (.s 31) (.c (.bool false)))⟩,
    ⟨none, (some 4), .inl (.mv (.s 32))⟩])
  (.ret)))
/-- gyttja/sheet.Rows -/
def k16 : Cd :=
  .seq (.region [⟨none, (some 3), .inl (.box 25 4 (.s 0))⟩,
    ⟨none, (some 6), .inl (.mv (.c (.slice none 0 0)))⟩,
    ⟨none, (some 7), .inl (.mv (.c (.int .i64 0)))⟩])
  (.seq (.seq (.region [⟨none, (some 9), .inl (.ld true 4 (.s 3))⟩,
    ⟨none, (some 10), .inl (.mv (.s 1))⟩,
    ⟨none, (some 11), .inl (.mv (.s 2))⟩,
    ⟨none, (some 12), .inr (.fn 51 [(.s 9), (.s 10), (.s 11)])⟩,
    ⟨none, (some 8), .inl (.mv (.s 12))⟩])
  (.seq (.region [⟨none, (some 13), .inl (.mv (.s 8))⟩,
    ⟨none, (some 14), .inl (.bin .neq (.s 13) (.c (.int .i64 0)))⟩])
  (.cond (.s 14) (.seq (.region [⟨none, (some 15), .inl (.mv (.s 8))⟩,
     ⟨none, (some 6), .inl (.mv (.c (.slice none 0 0)))⟩,
     ⟨none, (some 7), .inl (.mv (.s 15))⟩])
   (.ret))
  (.skip))))
  (.seq (.draw [⟨⟨none, (some 16), .inl (.fa (.s 3) 3)⟩, (some []), [], 0, false⟩,
    ⟨⟨none, (some 17), .inl (.ld false 1 (.s 16))⟩, (some []), [], 1, false⟩,
    ⟨⟨none, (some 18), .inl (.ld true 4 (.s 3))⟩, (some []), [], 0, false⟩,
    ⟨⟨none, (some 19), .inl (.mv (.s 1))⟩, (some []), [], 0, false⟩,
    ⟨⟨none, (some 20), .inr (.fn 53 [(.s 18), (.s 19)])⟩, (some []), [], 12, false⟩,
    ⟨⟨none, (some 21), .inl (.bin .add (.s 20) (.c (.int .i64 1)))⟩, (some []), [], 28, false⟩,
    ⟨⟨none, (some 22), .inl (.ld true 4 (.s 3))⟩, (some []), [], 0, false⟩,
    ⟨⟨none, (some 23), .inl (.mv (.s 2))⟩, (some []), [], 0, false⟩,
    ⟨⟨none, (some 24), .inr (.fn 53 [(.s 22), (.s 23)])⟩, (some []), [], 220, false⟩,
    ⟨⟨none, (some 25), .inl (.slc 3 (.s 17) (some (.s 21)) (some (.s 24)) none)⟩, (some []), [], 511, false⟩,
    ⟨⟨none, (some 26), .inr (.fn 52 [(.s 25)])⟩, (some []), [], 1023, false⟩,
    ⟨⟨none, (some 6), .inl (.mv (.s 26))⟩, (some []), [], 2047, false⟩,
    ⟨⟨none, (some 7), .inl (.mv (.c (.int .i64 0)))⟩, (some []), [], 4095, false⟩])
  (.ret)))
/-- gyttja/gyttjaref01.Rows -/
def k17 : Cd :=
  .seq (.region [⟨none, (some 3), .inl (.box 25 4 (.s 0))⟩,
    ⟨none, (some 6), .inl (.mv (.c (.slice none 0 0)))⟩,
    ⟨none, (some 7), .inl (.mv (.c (.int .i64 0)))⟩])
  (.seq (.region [⟨none, (some 12), .inl (.ld true 4 (.s 3))⟩,
    ⟨none, (some 13), .inl (.mv (.s 1))⟩,
    ⟨none, (some 14), .inl (.mv (.s 2))⟩,
    ⟨none, (some 15), .inr (.fn 54 [(.s 12), (.s 13), (.s 14), (.c (.bool true))])⟩,
    ⟨none, (some 11), .inl (.mv (.s 15))⟩,
    ⟨none, (some 16), .inl (.ex (.s 11) 0)⟩,
    ⟨none, (some 17), .inl (.ex (.s 11) 1)⟩,
    ⟨none, (some 18), .inl (.ex (.s 11) 2)⟩,
    ⟨none, (some 8), .inl (.mv (.s 16))⟩,
    ⟨none, (some 9), .inl (.mv (.s 17))⟩,
    ⟨none, (some 10), .inl (.mv (.s 18))⟩])
  (.seq (.seq (.region [⟨none, (some 19), .inl (.mv (.s 10))⟩,
    ⟨none, (some 20), .inl (.bin .neq (.s 19) (.c (.int .i64 0)))⟩])
  (.cond (.s 20) (.seq (.region [⟨none, (some 21), .inl (.mv (.s 10))⟩,
     ⟨none, (some 6), .inl (.mv (.c (.slice none 0 0)))⟩,
     ⟨none, (some 7), .inl (.mv (.s 21))⟩])
   (.ret))
  (.skip)))
  (.seq (.region [⟨none, (some 22), .inl (.bs 71 3 0 [(.int .i64 0), (.int .i64 0), (.int .i64 0)] [])⟩,
    ⟨none, (some 23), .inl (.fa (.s 3) 3)⟩,
    ⟨none, (some 24), .inl (.ld false 1 (.s 23))⟩,
    ⟨none, (some 25), .inl (.mv (.s 8))⟩,
    ⟨none, (some 26), .inl (.bin .add (.s 25) (.c (.int .i64 1)))⟩,
    ⟨none, (some 27), .inl (.mv (.s 9))⟩,
    ⟨none, (some 28), .inl (.slc 3 (.s 24) (some (.s 26)) (some (.s 27)) none)⟩,
    ⟨none, (some 29), .inl (.app 71 3 24 (.s 22) (.s 28))⟩,
    ⟨none, (some 6), .inl (.mv (.s 29))⟩,
    ⟨none, (some 7), .inl (.mv (.c (.int .i64 0)))⟩])
  (.ret))))
/-- gyttja/sheet.Splice -/
def k18 : Cd :=
  .seq (.region [⟨none, (some 4), .inl (.box 25 4 (.s 0))⟩,
    ⟨none, (some 8), .inl (.alloc 25 [(.int .i64 0), (.int .i64 0), (.int .i64 0), (.slice none 0 0)])⟩,
    ⟨none, (some 9), .inl (.mv (.c (.int .i64 0)))⟩])
  (.seq (.seq (.region [⟨none, (some 13), .inl (.ld true 4 (.s 4))⟩,
    ⟨none, (some 14), .inl (.mv (.s 1))⟩,
    ⟨none, (some 15), .inl (.mv (.s 2))⟩,
    ⟨none, (some 16), .inr (.fn 51 [(.s 13), (.s 14), (.s 15)])⟩,
    ⟨none, (some 10), .inl (.mv (.s 16))⟩])
  (.seq (.region [⟨none, (some 17), .inl (.mv (.s 10))⟩,
    ⟨none, (some 18), .inl (.bin .neq (.s 17) (.c (.int .i64 0)))⟩])
  (.cond (.s 18) (.seq (.region [⟨none, (some 19), .inl (.bld [(.int .i64 0), (.int .i64 0), (.int .i64 0), (.slice none 0 0)] [])⟩,
     ⟨none, (some 20), .inl (.mv (.s 10))⟩,
     ⟨none, none, .inl (.st 4 (.s 8) (.s 19))⟩,
     ⟨none, (some 9), .inl (.mv (.s 20))⟩])
   (.ret))
  (.skip))))
  (.seq (.region [⟨none, (some 21), .inl (.ld true 4 (.s 4))⟩,
    ⟨none, (some 11), .inl (.alloc 25 [(.int .i64 0), (.int .i64 0), (.int .i64 0), (.slice none 0 0)])⟩,
    ⟨none, none, .inl (.st 4 (.s 11) (.s 21))⟩])
  (.seq (.draw [⟨⟨none, (some 22), .inl (.fa (.s 4) 3)⟩, (some []), [], 0, false⟩,
    ⟨⟨none, (some 23), .inl (.ld false 1 (.s 22))⟩, (some []), [], 1, false⟩,
    ⟨⟨none, (some 24), .inl (.ld true 4 (.s 4))⟩, (some []), [], 0, false⟩,
    ⟨⟨none, (some 25), .inl (.mv (.s 1))⟩, (some []), [], 0, false⟩,
    ⟨⟨none, (some 26), .inr (.fn 53 [(.s 24), (.s 25)])⟩, (some []), [], 12, false⟩,
    ⟨⟨none, (some 27), .inl (.bin .add (.s 26) (.c (.int .i64 1)))⟩, (some []), [], 28, false⟩,
    ⟨⟨none, (some 28), .inl (.slc 3 (.s 23) none (some (.s 27)) none)⟩, (some []), [], 63, false⟩,
    ⟨⟨none, (some 29), .inl (.mv (.s 3))⟩, (some []), [], 0, false⟩,
    ⟨⟨none, (some 30), .inl (.fa (.s 4) 3)⟩, (some []), [], 0, false⟩,
    ⟨⟨none, (some 31), .inl (.ld false 1 (.s 30))⟩, (some []), [], 256, false⟩,
    ⟨⟨none, (some 32), .inl (.ld true 4 (.s 4))⟩, (some []), [], 0, false⟩,
    ⟨⟨none, (some 33), .inl (.mv (.s 2))⟩, (some []), [], 0, false⟩,
    ⟨⟨none, (some 34), .inr (.fn 53 [(.s 32), (.s 33)])⟩, (some []), [], 3100, false⟩,
    ⟨⟨none, (some 35), .inl (.slc 3 (.s 31) (some (.s 34)) none none)⟩, (some []), [], 7964, false⟩,
    ⟨⟨none, (some 36), .inl (.bst 23 1 3 [(.slice none 0 0)] [(0, (.s 28)), (1, (.s 29)), (2, (.s 35))])⟩, (some [.fr 36]), [], 16383, false⟩,
    ⟨⟨none, (some 37), .inr (.fn 55 [(.s 36)])⟩, (some []), [], 32767, false⟩,
    ⟨⟨none, (some 38), .inl (.fa (.s 11) 3)⟩, (some []), [], 65535, false⟩,
    ⟨⟨none, none, .inl (.st 1 (.s 38) (.s 37))⟩, (some [.at 11]), [], 131071, false⟩])
  (.seq (.seq (.region [⟨none, (some 39), .inl (.ld true 4 (.s 11))⟩,
    ⟨none, (some 40), .inr (.fn 40 [(.s 39)])⟩,
    ⟨none, (some 12), .inl (.mv (.s 40))⟩])
  (.seq (.region [⟨none, (some 41), .inl (.mv (.s 12))⟩,
    ⟨none, (some 42), .inl (.bin .neq (.s 41) (.c (.int .i64 0)))⟩])
  (.cond (.s 42) (.seq (.region [⟨none, (some 43), .inl (.bld [(.int .i64 0), (.int .i64 0), (.int .i64 0), (.slice none 0 0)] [])⟩,
     ⟨none, (some 44), .inl (.mv (.s 12))⟩,
     ⟨none, none, .inl (.st 4 (.s 8) (.s 43))⟩,
     ⟨none, (some 9), .inl (.mv (.s 44))⟩])
   (.ret))
  (.skip))))
  (.seq (.region [⟨none, (some 45), .inl (.ld true 4 (.s 11))⟩,
    ⟨none, none, .inl (.st 4 (.s 8) (.s 45))⟩,
    ⟨none, (some 9), .inl (.mv (.c (.int .i64 0)))⟩])
  (.ret))))))
/-- gyttja/gyttjaref01.Splice -/
def k19 : Cd :=
  .seq (.region [⟨none, (some 4), .inl (.box 25 4 (.s 0))⟩,
    ⟨none, (some 8), .inl (.alloc 25 [(.int .i64 0), (.int .i64 0), (.int .i64 0), (.slice none 0 0)])⟩,
    ⟨none, (some 9), .inl (.mv (.c (.int .i64 0)))⟩])
  (.seq (.region [⟨none, (some 16), .inl (.ld true 4 (.s 4))⟩,
    ⟨none, (some 17), .inl (.mv (.s 1))⟩,
    ⟨none, (some 18), .inl (.mv (.s 2))⟩,
    ⟨none, (some 19), .inr (.fn 54 [(.s 16), (.s 17), (.s 18), (.c (.bool true))])⟩,
    ⟨none, (some 15), .inl (.mv (.s 19))⟩,
    ⟨none, (some 20), .inl (.ex (.s 15) 0)⟩,
    ⟨none, (some 21), .inl (.ex (.s 15) 1)⟩,
    ⟨none, (some 22), .inl (.ex (.s 15) 2)⟩,
    ⟨none, (some 10), .inl (.mv (.s 20))⟩,
    ⟨none, (some 11), .inl (.mv (.s 21))⟩,
    ⟨none, (some 12), .inl (.mv (.s 22))⟩])
  (.seq (.seq (.region [⟨none, (some 23), .inl (.mv (.s 12))⟩,
    ⟨none, (some 24), .inl (.bin .neq (.s 23) (.c (.int .i64 0)))⟩])
  (.cond (.s 24) (.seq (.region [⟨none, (some 25), .inl (.bld [(.int .i64 0), (.int .i64 0), (.int .i64 0), (.slice none 0 0)] [])⟩,
     ⟨none, (some 26), .inl (.mv (.s 12))⟩,
     ⟨none, none, .inl (.st 4 (.s 8) (.s 25))⟩,
     ⟨none, (some 9), .inl (.mv (.s 26))⟩])
   (.ret))
  (.skip)))
  (.seq (.region [⟨none, (some 27), .inl (.bs 71 3 0 [(.int .i64 0), (.int .i64 0), (.int .i64 0)] [])⟩,
    ⟨none, (some 28), .inl (.fa (.s 4) 3)⟩,
    ⟨none, (some 29), .inl (.ld false 1 (.s 28))⟩,
    ⟨none, (some 30), .inl (.mv (.s 10))⟩,
    ⟨none, (some 31), .inl (.bin .add (.s 30) (.c (.int .i64 1)))⟩,
    ⟨none, (some 32), .inl (.slc 3 (.s 29) none (some (.s 31)) none)⟩,
    ⟨none, (some 33), .inl (.app 71 3 24 (.s 27) (.s 32))⟩,
    ⟨none, (some 13), .inl (.mv (.s 33))⟩])
  (.seq (.region [⟨none, (some 34), .inl (.mv (.s 13))⟩,
    ⟨none, (some 35), .inl (.mv (.s 3))⟩,
    ⟨none, (some 36), .inl (.app 71 3 24 (.s 34) (.s 35))⟩,
    ⟨none, (some 13), .inl (.mv (.s 36))⟩])
  (.seq (.region [⟨none, (some 37), .inl (.mv (.s 13))⟩,
    ⟨none, (some 38), .inl (.fa (.s 4) 3)⟩,
    ⟨none, (some 39), .inl (.ld false 1 (.s 38))⟩,
    ⟨none, (some 40), .inl (.mv (.s 11))⟩,
    ⟨none, (some 41), .inl (.slc 3 (.s 39) (some (.s 40)) none none)⟩,
    ⟨none, (some 42), .inl (.app 71 3 24 (.s 37) (.s 41))⟩,
    ⟨none, (some 13), .inl (.mv (.s 42))⟩])
  (.seq (.region [⟨none, (some 43), .inl (.fa (.s 4) 0)⟩,
    ⟨none, (some 44), .inl (.ld false 1 (.s 43))⟩,
    ⟨none, (some 45), .inl (.fa (.s 4) 1)⟩,
    ⟨none, (some 46), .inl (.ld false 1 (.s 45))⟩,
    ⟨none, (some 47), .inl (.fa (.s 4) 2)⟩,
    ⟨none, (some 48), .inl (.ld false 1 (.s 47))⟩,
    ⟨none, (some 49), .inl (.mv (.s 13))⟩,
    ⟨none, (some 50), .inl (.bld [(.int .i64 0), (.int .i64 0), (.int .i64 0), (.slice none 0 0)] [(0, 1, (.s 44)), (1, 1, (.s 46)), (2, 1, (.s 48)), (3, 1, (.s 49))])⟩,
    ⟨none, (some 14), .inl (.alloc 25 [(.int .i64 0), (.int .i64 0), (.int .i64 0), (.slice none 0 0)])⟩,
    ⟨none, none, .inl (.st 4 (.s 14) (.s 50))⟩])
  (.seq (.region [⟨none, (some 51), .inl (.ld true 4 (.s 14))⟩,
    ⟨none, (some 52), .inr (.fn 45 [(.s 51)])⟩,
    ⟨none, (some 12), .inl (.mv (.s 52))⟩])
  (.seq (.seq (.region [⟨none, (some 53), .inl (.mv (.s 12))⟩,
    ⟨none, (some 54), .inl (.bin .neq (.s 53) (.c (.int .i64 0)))⟩])
  (.cond (.s 54) (.seq (.region [⟨none, (some 55), .inl (.bld [(.int .i64 0), (.int .i64 0), (.int .i64 0), (.slice none 0 0)] [])⟩,
     ⟨none, (some 56), .inl (.mv (.s 12))⟩,
     ⟨none, none, .inl (.st 4 (.s 8) (.s 55))⟩,
     ⟨none, (some 9), .inl (.mv (.s 56))⟩])
   (.ret))
  (.skip)))
  (.seq (.region [⟨none, (some 57), .inl (.ld true 4 (.s 14))⟩,
    ⟨none, none, .inl (.st 4 (.s 8) (.s 57))⟩,
    ⟨none, (some 9), .inl (.mv (.c (.int .i64 0)))⟩])
  (.ret))))))))))
/-- gyttja/sheet.Cut -/
def k20 : Cd :=
  .seq (.region [⟨none, (some 3), .inl (.box 25 4 (.s 0))⟩,
    ⟨none, (some 6), .inl (.alloc 25 [(.int .i64 0), (.int .i64 0), (.int .i64 0), (.slice none 0 0)])⟩,
    ⟨none, (some 7), .inl (.mv (.c (.int .i64 0)))⟩])
  (.seq (.seq (.region [⟨none, (some 10), .inl (.ld true 4 (.s 3))⟩,
    ⟨none, (some 11), .inl (.mv (.s 1))⟩,
    ⟨none, (some 12), .inl (.mv (.s 2))⟩,
    ⟨none, (some 13), .inr (.fn 56 [(.s 10), (.s 11), (.s 12)])⟩,
    ⟨none, (some 8), .inl (.mv (.s 13))⟩])
  (.seq (.region [⟨none, (some 14), .inl (.mv (.s 8))⟩,
    ⟨none, (some 15), .inl (.bin .neq (.s 14) (.c (.int .i64 0)))⟩])
  (.cond (.s 15) (.seq (.region [⟨none, (some 16), .inl (.bld [(.int .i64 0), (.int .i64 0), (.int .i64 0), (.slice none 0 0)] [])⟩,
     ⟨none, (some 17), .inl (.mv (.s 8))⟩,
     ⟨none, none, .inl (.st 4 (.s 6) (.s 16))⟩,
     ⟨none, (some 7), .inl (.mv (.s 17))⟩])
   (.ret))
  (.skip))))
  (.seq (.seq (.region [⟨none, (some 18), .inl (.mv (.s 2))⟩,
    ⟨none, (some 19), .inl (.mv (.s 1))⟩,
    ⟨none, (some 20), .inl (.bin .lss (.s 18) (.s 19))⟩])
  (.cond (.s 20) (.seq (.region [⟨none, (some 21), .inl (.bld [(.int .i64 0), (.int .i64 0), (.int .i64 0), (.slice none 0 0)] [])⟩,
     ⟨none, none, .inl (.st 4 (.s 6) (.s 21))⟩,
     ⟨none, (some 7), .inl (.mv (.c (.int .i64 15)))⟩])
   (.ret))
  (.skip)))
  (.seq (.region [⟨none, (some 22), .inl (.ld true 4 (.s 3))⟩,
    ⟨none, (some 9), .inl (.alloc 25 [(.int .i64 0), (.int .i64 0), (.int .i64 0), (.slice none 0 0)])⟩,
    ⟨none, none, .inl (.st 4 (.s 9) (.s 22))⟩])
  (.seq (.draw [⟨⟨none, (some 23), .inl (.fa (.s 3) 3)⟩, (some []), [], 0, false⟩,
    ⟨⟨none, (some 24), .inl (.ld false 1 (.s 23))⟩, (some []), [], 1, false⟩,
    ⟨⟨none, (some 25), .inl (.ld true 4 (.s 3))⟩, (some []), [], 0, false⟩,
    ⟨⟨none, (some 26), .inl (.mv (.s 1))⟩, (some []), [], 0, false⟩,
    ⟨⟨none, (some 27), .inr (.fn 53 [(.s 25), (.s 26)])⟩, (some []), [], 12, false⟩,
    ⟨⟨none, (some 28), .inl (.ld true 4 (.s 3))⟩, (some []), [], 0, false⟩,
    ⟨⟨none, (some 29), .inl (.mv (.s 2))⟩, (some []), [], 0, false⟩,
    ⟨⟨none, (some 30), .inr (.fn 53 [(.s 28), (.s 29)])⟩, (some []), [], 124, false⟩,
    ⟨⟨none, (some 31), .inl (.bin .add (.s 30) (.c (.int .i64 1)))⟩, (some []), [], 252, false⟩,
    ⟨⟨none, (some 32), .inl (.slc 3 (.s 24) (some (.s 27)) (some (.s 31)) none)⟩, (some []), [], 511, false⟩,
    ⟨⟨none, (some 33), .inr (.fn 52 [(.s 32)])⟩, (some []), [], 1023, false⟩,
    ⟨⟨none, (some 34), .inl (.fa (.s 9) 3)⟩, (some []), [], 2047, false⟩,
    ⟨⟨none, none, .inl (.st 1 (.s 34) (.s 33))⟩, (some [.at 9]), [], 4095, false⟩])
  (.seq (.region [⟨none, (some 35), .inl (.ld true 4 (.s 9))⟩,
    ⟨none, none, .inl (.st 4 (.s 6) (.s 35))⟩,
    ⟨none, (some 7), .inl (.mv (.c (.int .i64 0)))⟩])
  (.ret))))))
/-- gyttja/gyttjaref01.Cut -/
def k21 : Cd :=
  .seq (.region [⟨none, (some 3), .inl (.box 25 4 (.s 0))⟩,
    ⟨none, (some 6), .inl (.alloc 25 [(.int .i64 0), (.int .i64 0), (.int .i64 0), (.slice none 0 0)])⟩,
    ⟨none, (some 7), .inl (.mv (.c (.int .i64 0)))⟩])
  (.seq (.region [⟨none, (some 12), .inl (.ld true 4 (.s 3))⟩,
    ⟨none, (some 13), .inl (.mv (.s 1))⟩,
    ⟨none, (some 14), .inl (.mv (.s 2))⟩,
    ⟨none, (some 15), .inr (.fn 54 [(.s 12), (.s 13), (.s 14), (.c (.bool false))])⟩,
    ⟨none, (some 11), .inl (.mv (.s 15))⟩,
    ⟨none, (some 16), .inl (.ex (.s 11) 0)⟩,
    ⟨none, (some 17), .inl (.ex (.s 11) 1)⟩,
    ⟨none, (some 18), .inl (.ex (.s 11) 2)⟩,
    ⟨none, (some 8), .inl (.mv (.s 16))⟩,
    ⟨none, (some 9), .inl (.mv (.s 17))⟩,
    ⟨none, (some 10), .inl (.mv (.s 18))⟩])
  (.seq (.seq (.region [⟨none, (some 19), .inl (.mv (.s 10))⟩,
    ⟨none, (some 20), .inl (.bin .neq (.s 19) (.c (.int .i64 0)))⟩])
  (.cond (.s 20) (.seq (.region [⟨none, (some 21), .inl (.bld [(.int .i64 0), (.int .i64 0), (.int .i64 0), (.slice none 0 0)] [])⟩,
     ⟨none, (some 22), .inl (.mv (.s 10))⟩,
     ⟨none, none, .inl (.st 4 (.s 6) (.s 21))⟩,
     ⟨none, (some 7), .inl (.mv (.s 22))⟩])
   (.ret))
  (.skip)))
  (.seq (.draw [⟨⟨none, (some 23), .inl (.fa (.s 3) 0)⟩, (some []), [], 0, false⟩,
    ⟨⟨none, (some 24), .inl (.ld false 1 (.s 23))⟩, (some []), [.fr 29, .fr 36], 1, false⟩,
    ⟨⟨none, (some 25), .inl (.fa (.s 3) 1)⟩, (some []), [], 0, false⟩,
    ⟨⟨none, (some 26), .inl (.ld false 1 (.s 25))⟩, (some []), [.fr 29, .fr 36], 4, false⟩,
    ⟨⟨none, (some 27), .inl (.fa (.s 3) 2)⟩, (some []), [], 0, false⟩,
    ⟨⟨none, (some 28), .inl (.ld false 1 (.s 27))⟩, (some []), [.fr 29, .fr 36], 16, false⟩,
    ⟨⟨none, (some 29), .inl (.bs 71 3 0 [(.int .i64 0), (.int .i64 0), (.int .i64 0)] [])⟩, (some [.fr 29]), [], 0, false⟩,
    ⟨⟨none, (some 30), .inl (.fa (.s 3) 3)⟩, (some []), [], 0, false⟩,
    ⟨⟨none, (some 31), .inl (.ld false 1 (.s 30))⟩, (some []), [.fr 29], 128, false⟩,
    ⟨⟨none, (some 32), .inl (.mv (.s 8))⟩, (some []), [], 0, false⟩,
    ⟨⟨none, (some 33), .inl (.mv (.s 9))⟩, (some []), [], 0, false⟩,
    ⟨⟨none, (some 34), .inl (.bin .add (.s 33) (.c (.int .i64 1)))⟩, (some []), [], 1024, false⟩,
    ⟨⟨none, (some 35), .inl (.slc 3 (.s 31) (some (.s 32)) (some (.s 34)) none)⟩, (some []), [.fr 29], 3968, false⟩,
    ⟨⟨none, (some 36), .inl (.app 71 3 24 (.s 29) (.s 35))⟩, (some [.fr 36, .fr 29]), [], 8128, false⟩,
    ⟨⟨none, (some 37), .inl (.bld [(.int .i64 0), (.int .i64 0), (.int .i64 0), (.slice none 0 0)] [(0, 1, (.s 24)), (1, 1, (.s 26)), (2, 1, (.s 28)), (3, 1, (.s 36))])⟩, (some []), [], 16383, false⟩,
    ⟨⟨none, none, .inl (.st 4 (.s 6) (.s 37))⟩, (some [.at 6]), [], 32767, false⟩,
    ⟨⟨none, (some 7), .inl (.mv (.c (.int .i64 0)))⟩, (some []), [], 65535, false⟩])
  (.ret))))
def k22l0 : Cd :=
  .seq (.seq (.region [⟨none, (some 12), .inl (.mv (.s 6))⟩,
    ⟨none, (some 13), .inl (.mv (.s 0))⟩,
    ⟨none, (some 14), .inl (.len (.s 13))⟩,
    ⟨none, (some 15), .inl (.bin .lss (.s 12) (.s 14))⟩,
    ⟨none, (some 16), .inl (.mv (.s 15))⟩,
    ⟨(some (16, true)), (some 17), .inl (.mv (.s 5))⟩,
    ⟨none, (some 18), .inl (.pick (.s 16) (.s 17) (.c (.bool false)))⟩])
  (.cond (.s 18) (.skip)
  (.exit 0)))
  (.seq (.block 1 (.draw [⟨⟨none, (some 21), .inl (.mv (.s 0))⟩, (some []), [], 0, false⟩,
    ⟨⟨none, (some 22), .inl (.mv (.s 6))⟩, (some []), [], 0, false⟩,
    ⟨⟨none, (some 23), .inl (.ias 3 (.s 21) (.s 22))⟩, (some []), [], 3, false⟩,
    ⟨⟨none, (some 24), .inl (.ld true 3 (.s 23))⟩, (some []), [], 7, false⟩,
    ⟨⟨none, (some 25), .inl (.mv (.s 1))⟩, (some []), [], 0, false⟩,
    ⟨⟨none, (some 26), .inl (.mv (.s 6))⟩, (some []), [], 0, false⟩,
    ⟨⟨none, (some 27), .inl (.ias 3 (.s 25) (.s 26))⟩, (some []), [], 48, false⟩,
    ⟨⟨none, (some 28), .inl (.ld true 3 (.s 27))⟩, (some []), [], 112, false⟩,
    ⟨⟨none, (some 29), .inl (.eq false (.cells [.int, .int, .int]) (.s 24) (.s 28))⟩, (some []), [], 255, false⟩,
    ⟨⟨none, (some 5), .inl (.mv (.s 29))⟩, (some []), [], 511, false⟩]))
  (.region [⟨none, (some 19), .inl (.mv (.s 6))⟩,
    ⟨none, (some 20), .inl (.bin .add (.s 19) (.c (.int .i64 1)))⟩,
    ⟨none, (some 6), .inl (.mv (.s 20))⟩]))
/-- gyttja/gyttjaref01.SameRows -/
def k22 : Cd :=
  .seq (.region [⟨none, (some 4), .inl (.mv (.c (.bool false)))⟩])
  (.seq (.region [⟨none, (some 7), .inl (.mv (.s 0))⟩,
    ⟨none, (some 8), .inl (.len (.s 7))⟩,
    ⟨none, (some 9), .inl (.mv (.s 1))⟩,
    ⟨none, (some 10), .inl (.len (.s 9))⟩,
    ⟨none, (some 11), .inl (.bin .eql (.s 8) (.s 10))⟩,
    ⟨none, (some 5), .inl (.mv (.s 11))⟩])
  (.seq (.seq (.region [⟨none, (some 6), .inl (.mv (.c (.int .i64 0)))⟩])
  (.block 0 (.loop k22l0)))
  (.seq (.region [⟨none, (some 30), .inl (.mv (.s 5))⟩,
    ⟨none, (some 4), .inl (.mv (.s 30))⟩])
  (.ret))))
/-- gyttja/gyttjalaw01.trimmed -/
def k23 : Cd :=
  .seq (.region [⟨none, (some 1), .inl (.box 25 4 (.s 0))⟩,
    ⟨none, (some 2), .inl (.alloc 25 [(.int .i64 0), (.int .i64 0), (.int .i64 0), (.slice none 0 0)])⟩])
  (.seq (.region [⟨none, (some 3), .inl (.fa (.s 1) 3)⟩,
    ⟨none, (some 4), .inl (.ld false 1 (.s 3))⟩,
    ⟨none, (some 5), .inr (.fn 29 [(.s 4)])⟩,
    ⟨none, (some 6), .inl (.fa (.s 1) 3)⟩,
    ⟨none, none, .inl (.st 1 (.s 6) (.s 5))⟩])
  (.seq (.region [⟨none, (some 7), .inl (.ld true 4 (.s 1))⟩,
    ⟨none, none, .inl (.st 4 (.s 2) (.s 7))⟩])
  (.ret)))
/-- gyttja/sheet.Meet -/
def k24 : Cd :=
  .seq (.region [⟨none, (some 2), .inl (.box 25 4 (.s 0))⟩,
    ⟨none, (some 3), .inl (.box 25 4 (.s 1))⟩,
    ⟨none, (some 4), .inl (.mv (.c (.slice none 0 0)))⟩,
    ⟨none, (some 5), .inl (.mv (.c (.int .i64 0)))⟩])
  (.seq (.region [⟨none, (some 6), .inl (.ld true 4 (.s 2))⟩,
    ⟨none, (some 7), .inl (.ld true 4 (.s 3))⟩,
    ⟨none, (some 8), .inr (.fn 57 [(.s 6), (.s 7), (.f 58)])⟩,
    ⟨none, (some 9), .inl (.ex (.s 8) 0)⟩,
    ⟨none, (some 10), .inl (.ex (.s 8) 1)⟩,
    ⟨none, (some 4), .inl (.mv (.s 9))⟩,
    ⟨none, (some 5), .inl (.mv (.s 10))⟩])
  (.ret))
def k25l0 : Cd :=
  .seq (.seq (.region [⟨none, (some 16), .inl (.mv (.s 9))⟩,
    ⟨none, (some 17), .inl (.mv (.s 6))⟩,
    ⟨none, (some 18), .inl (.len (.s 17))⟩,
    ⟨none, (some 19), .inl (.bin .lss (.s 16) (.s 18))⟩])
  (.cond (.s 19) (.skip)
  (.exit 0)))
  (.seq (.block 1 (.seq (.draw [⟨⟨none, (some 22), .inl (.mv (.s 6))⟩, (some []), [], 0, false⟩,
    ⟨⟨none, (some 23), .inl (.mv (.s 9))⟩, (some []), [], 0, false⟩,
    ⟨⟨none, (some 24), .inl (.ias 4 (.s 22) (.s 23))⟩, (some []), [], 3, false⟩,
    ⟨⟨none, (some 25), .inl (.fa (.s 24) 2)⟩, (some []), [], 7, false⟩,
    ⟨⟨none, (some 26), .inl (.ld false 1 (.s 25))⟩, (some []), [], 15, false⟩,
    ⟨⟨none, (some 27), .inl (.mv (.s 6))⟩, (some []), [], 0, false⟩,
    ⟨⟨none, (some 28), .inl (.mv (.s 9))⟩, (some []), [], 0, false⟩,
    ⟨⟨none, (some 29), .inl (.ias 4 (.s 27) (.s 28))⟩, (some []), [], 96, false⟩,
    ⟨⟨none, (some 30), .inl (.fa (.s 29) 3)⟩, (some []), [], 224, false⟩,
    ⟨⟨none, (some 31), .inl (.ld false 1 (.s 30))⟩, (some []), [], 480, false⟩,
    ⟨⟨none, (some 32), .inl (.bin .leq (.s 26) (.s 31))⟩, (some []), [], 1023, false⟩])
  (.cond (.s 32) (.region [⟨none, (some 33), .inl (.mv (.s 8))⟩,
     ⟨none, (some 34), .inl (.mv (.s 6))⟩,
     ⟨none, (some 35), .inl (.mv (.s 9))⟩,
     ⟨none, (some 36), .inl (.ias 4 (.s 34) (.s 35))⟩,
     ⟨none, (some 37), .inl (.ld true 4 (.s 36))⟩,
     ⟨none, (some 38), .inl (.bs 54 4 1 [(.int .i64 0), (.int .i64 0), (.int .i64 0), (.int .i64 0)] [(0, (.s 37))])⟩,
     ⟨none, (some 39), .inl (.app 54 4 32 (.s 33) (.s 38))⟩,
     ⟨none, (some 8), .inl (.mv (.s 39))⟩])
  (.skip))))
  (.region [⟨none, (some 20), .inl (.mv (.s 9))⟩,
    ⟨none, (some 21), .inl (.bin .add (.s 20) (.c (.int .i64 1)))⟩,
    ⟨none, (some 9), .inl (.mv (.s 21))⟩]))
/-- gyttja/gyttjaref01.Meet -/
def k25 : Cd :=
  .seq (.region [⟨none, (some 2), .inl (.box 25 4 (.s 0))⟩,
    ⟨none, (some 3), .inl (.box 25 4 (.s 1))⟩,
    ⟨none, (some 4), .inl (.mv (.c (.slice none 0 0)))⟩,
    ⟨none, (some 5), .inl (.mv (.c (.int .i64 0)))⟩])
  (.seq (.region [⟨none, (some 11), .inl (.ld true 4 (.s 2))⟩,
    ⟨none, (some 12), .inl (.ld true 4 (.s 3))⟩,
    ⟨none, (some 13), .inr (.fn 59 [(.s 11), (.s 12)])⟩,
    ⟨none, (some 10), .inl (.mv (.s 13))⟩,
    ⟨none, (some 14), .inl (.ex (.s 10) 0)⟩,
    ⟨none, (some 15), .inl (.ex (.s 10) 1)⟩,
    ⟨none, (some 6), .inl (.mv (.s 14))⟩,
    ⟨none, (some 7), .inl (.mv (.s 15))⟩])
  (.seq (.region [⟨none, (some 8), .inl (.mv (.c (.slice none 0 0)))⟩])
  (.seq (.seq (.region [⟨none, (some 9), .inl (.mv (.c (.int .i64 0)))⟩])
  (.block 0 (.loop k25l0)))
  (.seq (.region [⟨none, (some 40), .inl (.mv (.s 8))⟩,
    ⟨none, (some 41), .inl (.mv (.s 7))⟩,
    ⟨none, (some 4), .inl (.mv (.s 40))⟩,
    ⟨none, (some 5), .inl (.mv (.s 41))⟩])
  (.ret)))))
/-- gyttja/sheet.Apart -/
def k26 : Cd :=
  .seq (.region [⟨none, (some 2), .inl (.box 25 4 (.s 0))⟩,
    ⟨none, (some 3), .inl (.box 25 4 (.s 1))⟩,
    ⟨none, (some 4), .inl (.mv (.c (.slice none 0 0)))⟩,
    ⟨none, (some 5), .inl (.mv (.c (.int .i64 0)))⟩])
  (.seq (.region [⟨none, (some 6), .inl (.ld true 4 (.s 2))⟩,
    ⟨none, (some 7), .inl (.ld true 4 (.s 3))⟩,
    ⟨none, (some 8), .inr (.fn 57 [(.s 6), (.s 7), (.f 60)])⟩,
    ⟨none, (some 9), .inl (.ex (.s 8) 0)⟩,
    ⟨none, (some 10), .inl (.ex (.s 8) 1)⟩,
    ⟨none, (some 4), .inl (.mv (.s 9))⟩,
    ⟨none, (some 5), .inl (.mv (.s 10))⟩])
  (.ret))
def k27l0 : Cd :=
  .seq (.seq (.region [⟨none, (some 16), .inl (.mv (.s 9))⟩,
    ⟨none, (some 17), .inl (.mv (.s 6))⟩,
    ⟨none, (some 18), .inl (.len (.s 17))⟩,
    ⟨none, (some 19), .inl (.bin .lss (.s 16) (.s 18))⟩])
  (.cond (.s 19) (.skip)
  (.exit 0)))
  (.seq (.block 1 (.seq (.draw [⟨⟨none, (some 22), .inl (.mv (.s 6))⟩, (some []), [], 0, false⟩,
    ⟨⟨none, (some 23), .inl (.mv (.s 9))⟩, (some []), [], 0, false⟩,
    ⟨⟨none, (some 24), .inl (.ias 4 (.s 22) (.s 23))⟩, (some []), [], 3, false⟩,
    ⟨⟨none, (some 25), .inl (.fa (.s 24) 2)⟩, (some []), [], 7, false⟩,
    ⟨⟨none, (some 26), .inl (.ld false 1 (.s 25))⟩, (some []), [], 15, false⟩,
    ⟨⟨none, (some 27), .inl (.mv (.s 6))⟩, (some []), [], 0, false⟩,
    ⟨⟨none, (some 28), .inl (.mv (.s 9))⟩, (some []), [], 0, false⟩,
    ⟨⟨none, (some 29), .inl (.ias 4 (.s 27) (.s 28))⟩, (some []), [], 96, false⟩,
    ⟨⟨none, (some 30), .inl (.fa (.s 29) 3)⟩, (some []), [], 224, false⟩,
    ⟨⟨none, (some 31), .inl (.ld false 1 (.s 30))⟩, (some []), [], 480, false⟩,
    ⟨⟨none, (some 32), .inl (.bin .gtr (.s 26) (.s 31))⟩, (some []), [], 1023, false⟩])
  (.cond (.s 32) (.region [⟨none, (some 33), .inl (.mv (.s 8))⟩,
     ⟨none, (some 34), .inl (.mv (.s 6))⟩,
     ⟨none, (some 35), .inl (.mv (.s 9))⟩,
     ⟨none, (some 36), .inl (.ias 4 (.s 34) (.s 35))⟩,
     ⟨none, (some 37), .inl (.ld true 4 (.s 36))⟩,
     ⟨none, (some 38), .inl (.bs 54 4 1 [(.int .i64 0), (.int .i64 0), (.int .i64 0), (.int .i64 0)] [(0, (.s 37))])⟩,
     ⟨none, (some 39), .inl (.app 54 4 32 (.s 33) (.s 38))⟩,
     ⟨none, (some 8), .inl (.mv (.s 39))⟩])
  (.skip))))
  (.region [⟨none, (some 20), .inl (.mv (.s 9))⟩,
    ⟨none, (some 21), .inl (.bin .add (.s 20) (.c (.int .i64 1)))⟩,
    ⟨none, (some 9), .inl (.mv (.s 21))⟩]))
/-- gyttja/gyttjaref01.Apart -/
def k27 : Cd :=
  .seq (.region [⟨none, (some 2), .inl (.box 25 4 (.s 0))⟩,
    ⟨none, (some 3), .inl (.box 25 4 (.s 1))⟩,
    ⟨none, (some 4), .inl (.mv (.c (.slice none 0 0)))⟩,
    ⟨none, (some 5), .inl (.mv (.c (.int .i64 0)))⟩])
  (.seq (.region [⟨none, (some 11), .inl (.ld true 4 (.s 2))⟩,
    ⟨none, (some 12), .inl (.ld true 4 (.s 3))⟩,
    ⟨none, (some 13), .inr (.fn 59 [(.s 11), (.s 12)])⟩,
    ⟨none, (some 10), .inl (.mv (.s 13))⟩,
    ⟨none, (some 14), .inl (.ex (.s 10) 0)⟩,
    ⟨none, (some 15), .inl (.ex (.s 10) 1)⟩,
    ⟨none, (some 6), .inl (.mv (.s 14))⟩,
    ⟨none, (some 7), .inl (.mv (.s 15))⟩])
  (.seq (.region [⟨none, (some 8), .inl (.mv (.c (.slice none 0 0)))⟩])
  (.seq (.seq (.region [⟨none, (some 9), .inl (.mv (.c (.int .i64 0)))⟩])
  (.block 0 (.loop k27l0)))
  (.seq (.region [⟨none, (some 40), .inl (.mv (.s 8))⟩,
    ⟨none, (some 41), .inl (.mv (.s 7))⟩,
    ⟨none, (some 4), .inl (.mv (.s 40))⟩,
    ⟨none, (some 5), .inl (.mv (.s 41))⟩])
  (.ret)))))
def k28l0 : Cd :=
  .seq (.seq (.region [⟨none, (some 12), .inl (.mv (.s 6))⟩,
    ⟨none, (some 13), .inl (.mv (.s 0))⟩,
    ⟨none, (some 14), .inl (.len (.s 13))⟩,
    ⟨none, (some 15), .inl (.bin .lss (.s 12) (.s 14))⟩,
    ⟨none, (some 16), .inl (.mv (.s 15))⟩,
    ⟨(some (16, true)), (some 17), .inl (.mv (.s 5))⟩,
    ⟨none, (some 18), .inl (.pick (.s 16) (.s 17) (.c (.bool false)))⟩])
  (.cond (.s 18) (.skip)
  (.exit 0)))
  (.seq (.block 1 (.draw [⟨⟨none, (some 21), .inl (.mv (.s 0))⟩, (some []), [], 0, false⟩,
    ⟨⟨none, (some 22), .inl (.mv (.s 6))⟩, (some []), [], 0, false⟩,
    ⟨⟨none, (some 23), .inl (.ias 4 (.s 21) (.s 22))⟩, (some []), [], 3, false⟩,
    ⟨⟨none, (some 24), .inl (.ld true 4 (.s 23))⟩, (some []), [], 7, false⟩,
    ⟨⟨none, (some 25), .inl (.mv (.s 1))⟩, (some []), [], 0, false⟩,
    ⟨⟨none, (some 26), .inl (.mv (.s 6))⟩, (some []), [], 0, false⟩,
    ⟨⟨none, (some 27), .inl (.ias 4 (.s 25) (.s 26))⟩, (some []), [], 48, false⟩,
    ⟨⟨none, (some 28), .inl (.ld true 4 (.s 27))⟩, (some []), [], 112, false⟩,
    ⟨⟨none, (some 29), .inl (.eq false (.cells [.int, .int, .int, .int]) (.s 24) (.s 28))⟩, (some []), [], 255, false⟩,
    ⟨⟨none, (some 5), .inl (.mv (.s 29))⟩, (some []), [], 511, false⟩]))
  (.region [⟨none, (some 19), .inl (.mv (.s 6))⟩,
    ⟨none, (some 20), .inl (.bin .add (.s 19) (.c (.int .i64 1)))⟩,
    ⟨none, (some 6), .inl (.mv (.s 20))⟩]))
/-- gyttja/gyttjaref01.SameSpans -/
def k28 : Cd :=
  .seq (.region [⟨none, (some 4), .inl (.mv (.c (.bool false)))⟩])
  (.seq (.region [⟨none, (some 7), .inl (.mv (.s 0))⟩,
    ⟨none, (some 8), .inl (.len (.s 7))⟩,
    ⟨none, (some 9), .inl (.mv (.s 1))⟩,
    ⟨none, (some 10), .inl (.len (.s 9))⟩,
    ⟨none, (some 11), .inl (.bin .eql (.s 8) (.s 10))⟩,
    ⟨none, (some 5), .inl (.mv (.s 11))⟩])
  (.seq (.seq (.region [⟨none, (some 6), .inl (.mv (.c (.int .i64 0)))⟩])
  (.block 0 (.loop k28l0)))
  (.seq (.region [⟨none, (some 30), .inl (.mv (.s 5))⟩,
    ⟨none, (some 4), .inl (.mv (.s 30))⟩])
  (.ret))))
/-- gyttja/gyttjalaw01.cut -/
def k29 : Cd :=
  .seq (.region [⟨none, (some 2), .inl (.mv (.c (.slice none 0 0)))⟩])
  (.seq (.region [⟨none, (some 3), .inl (.mv (.s 0))⟩,
    ⟨none, (some 4), .inl (.mv (.s 0))⟩,
    ⟨none, (some 5), .inl (.len (.s 4))⟩,
    ⟨none, (some 6), .inl (.mm false (.s 5) (.c (.int .i64 60)))⟩,
    ⟨none, (some 7), .inl (.slc 3 (.s 3) none (some (.s 6)) none)⟩,
    ⟨none, (some 2), .inl (.mv (.s 7))⟩])
  (.ret))
def k30l0 : Cd :=
  .region [⟨none, (some 5), .inl (.alloc 71 [(.int .i64 0), (.int .i64 0), (.int .i64 0)])⟩,
    ⟨none, none, .inl (.st 3 (.s 5) (.s 12))⟩]
def k30l1 : Cd :=
  .block 1 (.seq (.region [⟨none, (some 13), .inl (.fa (.s 5) 0)⟩,
    ⟨none, (some 14), .inl (.ld false 1 (.s 13))⟩,
    ⟨none, (some 15), .inl (.bin .eql (.s 14) (.c (.int .i64 1)))⟩])
  (.cond (.s 15) (.draw [⟨⟨none, (some 16), .inl (.ld false 1 (.s 3))⟩, (some []), [.fr 22], 0, false⟩,
     ⟨⟨none, (some 17), .inl (.fa (.s 1) 2)⟩, (some []), [], 0, false⟩,
     ⟨⟨none, (some 18), .inl (.ld false 1 (.s 17))⟩, (some []), [], 2, false⟩,
     ⟨⟨none, (some 19), .inl (.fa (.s 5) 1)⟩, (some []), [], 0, false⟩,
     ⟨⟨none, (some 20), .inl (.ld false 1 (.s 19))⟩, (some []), [], 8, false⟩,
     ⟨⟨none, (some 21), .inr (.fn 37 [(.s 18), (.s 20)])⟩, (some []), [], 30, false⟩,
     ⟨⟨none, (some 22), .inl (.bs 3 1 1 [(.int .i64 0)] [(0, (.s 21))])⟩, (some [.fr 22]), [], 62, false⟩,
     ⟨⟨none, (some 23), .inl (.app 3 1 8 (.s 16) (.s 22))⟩, (some [.fr 23, .at 16]), [], 127, false⟩,
     ⟨⟨none, none, .inl (.st 1 (.s 3) (.s 23))⟩, (some [.at 3]), [], 255, false⟩])
  (.skip)))
/-- gyttja/sheet.Marks -/
def k30 : Cd :=
  .seq (.region [⟨none, (some 1), .inl (.box 25 4 (.s 0))⟩,
    ⟨none, (some 2), .inl (.mv (.c (.slice none 0 0)))⟩])
  (.seq (.seq (.region [⟨none, (some 6), .inl (.ld true 4 (.s 1))⟩,
    ⟨none, (some 7), .inr (.fn 40 [(.s 6)])⟩,
    ⟨none, (some 8), .inl (.bin .neq (.s 7) (.c (.int .i64 0)))⟩])
  (.cond (.s 8) (.seq (.region [⟨none, (some 2), .inl (.mv (.c (.slice none 0 0)))⟩])
   (.ret))
  (.skip)))
  (.seq (.region [⟨none, (some 3), .inl (.alloc 48 [(.slice none 0 0)])⟩])
  (.seq (.seq (.region [⟨none, (some 9), .inl (.ld true 4 (.s 1))⟩,
    ⟨none, (some 10), .inr (.fn 61 [(.s 9)])⟩])
  (.block 0 (.rangeF (.s 10) [11, 12] k30l0 k30l1)))
  (.seq (.region [⟨none, (some 24), .inl (.ld false 1 (.s 3))⟩,
    ⟨none, (some 2), .inl (.mv (.s 24))⟩])
  (.ret)))))
/-- gyttja/gyttjaref01.Mod -/
def k31 : Cd :=
  .seq (.region [⟨none, (some 4), .inl (.mv (.c (.int .i64 0)))⟩])
  (.seq (.region [⟨none, (some 5), .inl (.mv (.s 0))⟩,
    ⟨none, (some 6), .inl (.mv (.s 1))⟩,
    ⟨none, (some 7), .inl (.bin .rem (.s 5) (.s 6))⟩,
    ⟨none, (some 8), .inl (.mv (.s 1))⟩,
    ⟨none, (some 9), .inl (.bin .add (.s 7) (.s 8))⟩,
    ⟨none, (some 10), .inl (.mv (.s 1))⟩,
    ⟨none, (some 11), .inl (.bin .rem (.s 9) (.s 10))⟩,
    ⟨none, (some 4), .inl (.mv (.s 11))⟩])
  (.ret))
def k32l0 : Cd :=
  .seq (.region [⟨none, (some 19), .inl (.bin .lss (.s 18) (.s 17))⟩])
  (.seq (.cond (.s 19) (.skip)
  (.exit 0))
  (.seq (.block 1 (.seq (.region [⟨none, (some 20), .inl (.ias 7 (.s 16) (.s 18))⟩,
    ⟨none, (some 21), .inl (.ld true 7 (.s 20))⟩,
    ⟨none, (some 7), .inl (.alloc 104 [(.bool false), (.int .i64 0), (.int .i64 0), (.slice none 0 0), (.int .i64 0), (.bool false), (.bool false)])⟩,
    ⟨none, none, .inl (.st 7 (.s 7) (.s 21))⟩])
  (.seq (.region [⟨none, (some 22), .inl (.mv (.s 2))⟩,
    ⟨none, (some 23), .inl (.fa (.s 7) 1)⟩,
    ⟨none, (some 24), .inl (.ld false 1 (.s 23))⟩,
    ⟨none, (some 25), .inl (.bin .add (.s 22) (.s 24))⟩,
    ⟨none, (some 2), .inl (.mv (.s 25))⟩])
  (.region [⟨none, (some 26), .inl (.mv (.s 3))⟩,
    ⟨none, (some 27), .inl (.fa (.s 7) 2)⟩,
    ⟨none, (some 28), .inl (.ld false 1 (.s 27))⟩,
    ⟨none, (some 29), .inl (.bin .add (.s 26) (.s 28))⟩,
    ⟨none, (some 3), .inl (.mv (.s 29))⟩]))))
  (.region [⟨none, (some 30), .inl (.bin .add (.s 18) (.c (.int .i64 1)))⟩,
    ⟨none, (some 18), .inl (.mv (.s 30))⟩])))
/-- gyttja/sheet.Years -/
def k32 : Cd :=
  .seq (.region [⟨none, (some 2), .inl (.mv (.c (.int .i64 0)))⟩,
    ⟨none, (some 3), .inl (.mv (.c (.int .i64 0)))⟩,
    ⟨none, (some 4), .inl (.mv (.c (.int .i64 0)))⟩])
  (.seq (.region [⟨none, (some 9), .inl (.mv (.s 0))⟩,
    ⟨none, (some 10), .inr (.fn 62 [(.s 9)])⟩,
    ⟨none, (some 8), .inl (.mv (.s 10))⟩,
    ⟨none, (some 11), .inl (.ex (.s 8) 0)⟩,
    ⟨none, (some 12), .inl (.ex (.s 8) 1)⟩,
    ⟨none, (some 5), .inl (.mv (.s 11))⟩,
    ⟨none, (some 4), .inl (.mv (.s 12))⟩])
  (.seq (.seq (.region [⟨none, (some 13), .inl (.mv (.s 4))⟩,
    ⟨none, (some 14), .inl (.bin .neq (.s 13) (.c (.int .i64 0)))⟩])
  (.cond (.s 14) (.seq (.region [⟨none, (some 15), .inl (.mv (.s 4))⟩,
     ⟨none, (some 2), .inl (.mv (.c (.int .i64 0)))⟩,
     ⟨none, (some 3), .inl (.mv (.c (.int .i64 0)))⟩,
     ⟨none, (some 4), .inl (.mv (.s 15))⟩])
   (.ret))
  (.skip)))
  (.seq (.seq (.region [⟨none, (some 16), .inl (.mv (.s 5))⟩,
    ⟨none, (some 17), .inl (.len (.s 16))⟩,
    ⟨none, (some 18), .inl (.mv (.c (.int .i64 0)))⟩])
  (.block 0 (.loop k32l0)))
  (.seq (.region [⟨none, (some 31), .inl (.mv (.s 2))⟩,
    ⟨none, (some 32), .inl (.mv (.s 3))⟩,
    ⟨none, (some 2), .inl (.mv (.s 31))⟩,
    ⟨none, (some 3), .inl (.mv (.s 32))⟩,
    ⟨none, (some 4), .inl (.mv (.c (.int .i64 0)))⟩])
  (.ret)))))
/-- gyttja/sheet.Between -/
def k33 : Cd :=
  .seq (.region [⟨none, (some 3), .inl (.box 25 4 (.s 0))⟩,
    ⟨none, (some 6), .inl (.alloc 54 [(.int .i64 0), (.int .i64 0), (.int .i64 0), (.int .i64 0)])⟩,
    ⟨none, (some 7), .inl (.mv (.c (.int .i64 0)))⟩])
  (.seq (.seq (.region [⟨none, (some 14), .inl (.ld true 4 (.s 3))⟩,
    ⟨none, (some 15), .inl (.mv (.s 1))⟩,
    ⟨none, (some 16), .inl (.mv (.s 2))⟩,
    ⟨none, (some 17), .inr (.fn 56 [(.s 14), (.s 15), (.s 16)])⟩,
    ⟨none, (some 8), .inl (.mv (.s 17))⟩])
  (.seq (.region [⟨none, (some 18), .inl (.mv (.s 8))⟩,
    ⟨none, (some 19), .inl (.bin .neq (.s 18) (.c (.int .i64 0)))⟩])
  (.cond (.s 19) (.seq (.region [⟨none, (some 20), .inl (.bld [(.int .i64 0), (.int .i64 0), (.int .i64 0), (.int .i64 0)] [])⟩,
     ⟨none, (some 21), .inl (.mv (.s 8))⟩,
     ⟨none, none, .inl (.st 4 (.s 6) (.s 20))⟩,
     ⟨none, (some 7), .inl (.mv (.s 21))⟩])
   (.ret))
  (.skip))))
  (.seq (.region [⟨none, (some 22), .inl (.ld true 4 (.s 3))⟩,
    ⟨none, (some 23), .inr (.fn 63 [(.s 22)])⟩,
    ⟨none, (some 9), .inl (.mv (.s 23))⟩])
  (.seq (.seq (.region [⟨none, (some 24), .inl (.mv (.s 2))⟩,
    ⟨none, (some 25), .inl (.mv (.s 1))⟩,
    ⟨none, (some 26), .inl (.bin .lss (.s 24) (.s 25))⟩])
  (.cond (.s 26) (.seq (.region [⟨none, (some 28), .inl (.mv (.s 9))⟩,
     ⟨none, (some 29), .inl (.mv (.s 2))⟩,
     ⟨none, (some 30), .inl (.mv (.s 1))⟩,
     ⟨none, (some 31), .inr (.fn 64 [(.s 28), (.s 29), (.s 30)])⟩,
     ⟨none, (some 27), .inl (.mv (.s 31))⟩,
     ⟨none, (some 32), .inl (.ex (.s 27) 0)⟩,
     ⟨none, (some 33), .inl (.ex (.s 27) 1)⟩,
     ⟨none, (some 10), .inl (.mv (.s 32))⟩,
     ⟨none, (some 11), .inl (.mv (.s 33))⟩])
   (.seq (.region [⟨none, (some 34), .inl (.mv (.s 1))⟩,
     ⟨none, (some 35), .inl (.mv (.s 2))⟩,
     ⟨none, (some 36), .inl (.mv (.s 11))⟩,
     ⟨none, (some 37), .inl (.neg (.s 36))⟩,
     ⟨none, (some 38), .inl (.mv (.s 10))⟩,
     ⟨none, (some 39), .inl (.neg (.s 38))⟩,
     ⟨none, (some 40), .inl (.bld [(.int .i64 0), (.int .i64 0), (.int .i64 0), (.int .i64 0)] [(0, 1, (.s 34)), (1, 1, (.s 35)), (2, 1, (.s 37)), (3, 1, (.s 39))])⟩,
     ⟨none, none, .inl (.st 4 (.s 6) (.s 40))⟩,
     ⟨none, (some 7), .inl (.mv (.c (.int .i64 0)))⟩])
   (.ret)))
  (.skip)))
  (.seq (.region [⟨none, (some 42), .inl (.mv (.s 9))⟩,
    ⟨none, (some 43), .inl (.mv (.s 1))⟩,
    ⟨none, (some 44), .inl (.mv (.s 2))⟩,
    ⟨none, (some 45), .inr (.fn 64 [(.s 42), (.s 43), (.s 44)])⟩,
    ⟨none, (some 41), .inl (.mv (.s 45))⟩,
    ⟨none, (some 46), .inl (.ex (.s 41) 0)⟩,
    ⟨none, (some 47), .inl (.ex (.s 41) 1)⟩,
    ⟨none, (some 12), .inl (.mv (.s 46))⟩,
    ⟨none, (some 13), .inl (.mv (.s 47))⟩])
  (.seq (.region [⟨none, (some 48), .inl (.mv (.s 1))⟩,
    ⟨none, (some 49), .inl (.mv (.s 2))⟩,
    ⟨none, (some 50), .inl (.mv (.s 12))⟩,
    ⟨none, (some 51), .inl (.mv (.s 13))⟩,
    ⟨none, (some 52), .inl (.bld [(.int .i64 0), (.int .i64 0), (.int .i64 0), (.int .i64 0)] [(0, 1, (.s 48)), (1, 1, (.s 49)), (2, 1, (.s 50)), (3, 1, (.s 51))])⟩,
    ⟨none, none, .inl (.st 4 (.s 6) (.s 52))⟩,
    ⟨none, (some 7), .inl (.mv (.c (.int .i64 0)))⟩])
  (.ret))))))
/-- gyttja/gyttjalaw01.example -/
def k34 : Cd :=
  .seq (.region [⟨none, (some 0), .inl (.alloc 25 [(.int .i64 0), (.int .i64 0), (.int .i64 0), (.slice none 0 0)])⟩])
  (.seq (.region [⟨none, (some 1), .inl (.bld [(.int .i64 0), (.int .i64 0), (.int .i64 0)] [(0, 1, (.c (.int .i64 1))), (1, 1, (.c (.int .i64 5)))])⟩,
    ⟨none, (some 2), .inl (.bld [(.int .i64 0), (.int .i64 0), (.int .i64 0)] [(0, 1, (.c (.int .i64 2))), (1, 1, (.c (.int .i64 120)))])⟩,
    ⟨none, (some 3), .inl (.bld [(.int .i64 0), (.int .i64 0), (.int .i64 0)] [(0, 1, (.c (.int .i64 3))), (1, 1, (.c (.int .i64 80))), (2, 1, (.c (.int .i64 95)))])⟩,
    ⟨none, (some 4), .inl (.bld [(.int .i64 0), (.int .i64 0), (.int .i64 0)] [(0, 1, (.c (.int .i64 1))), (1, 1, (.c (.int .i64 6)))])⟩,
    ⟨none, (some 5), .inl (.bld [(.int .i64 0), (.int .i64 0), (.int .i64 0)] [(0, 1, (.c (.int .i64 4))), (1, 1, (.c (.int .i64 2)))])⟩,
    ⟨none, (some 6), .inl (.bld [(.int .i64 0), (.int .i64 0), (.int .i64 0)] [(0, 1, (.c (.int .i64 5))), (1, 1, (.c (.int .i64 300)))])⟩,
    ⟨none, (some 7), .inl (.bld [(.int .i64 0), (.int .i64 0), (.int .i64 0)] [(0, 1, (.c (.int .i64 6))), (1, 1, (.c (.int .i64 1))), (2, 1, (.c (.int .i64 3)))])⟩,
    ⟨none, (some 8), .inl (.bld [(.int .i64 0), (.int .i64 0), (.int .i64 0)] [(0, 1, (.c (.int .i64 1))), (1, 1, (.c (.int .i64 9)))])⟩,
    ⟨none, (some 9), .inl (.bs 71 3 8 [(.int .i64 0), (.int .i64 0), (.int .i64 0)] [(0, (.s 1)), (1, (.s 2)), (2, (.s 3)), (3, (.s 4)), (4, (.s 5)), (5, (.s 6)), (6, (.s 7)), (7, (.s 8))])⟩,
    ⟨none, (some 10), .inl (.bld [(.int .i64 0), (.int .i64 0), (.int .i64 0), (.slice none 0 0)] [(0, 1, (.c (.int .i64 7))), (1, 1, (.c (.int .i64 3))), (2, 1, (.c (.int .i64 2))), (3, 1, (.s 9))])⟩,
    ⟨none, none, .inl (.st 4 (.s 0) (.s 10))⟩])
  (.ret))
def k35l0 : Cd :=
  .seq (.region [⟨none, (some 24), .inl (.bin .lss (.s 23) (.s 22))⟩])
  (.seq (.cond (.s 24) (.skip)
  (.exit 0))
  (.seq (.block 1 (.seq (.region [⟨none, (some 25), .inl (.ias 7 (.s 21) (.s 23))⟩,
    ⟨none, (some 26), .inl (.ld true 7 (.s 25))⟩,
    ⟨none, (some 11), .inl (.alloc 104 [(.bool false), (.int .i64 0), (.int .i64 0), (.slice none 0 0), (.int .i64 0), (.bool false), (.bool false)])⟩,
    ⟨none, none, .inl (.st 7 (.s 11) (.s 26))⟩])
  (.seq (.region [⟨none, (some 27), .inl (.fa (.s 11) 1)⟩,
    ⟨none, (some 28), .inl (.ld false 1 (.s 27))⟩,
    ⟨none, (some 12), .inl (.mv (.s 28))⟩])
  (.seq (.seq (.region [⟨none, (some 29), .inl (.fa (.s 11) 6)⟩,
    ⟨none, (some 30), .inl (.ld false 1 (.s 29))⟩])
  (.cond (.s 30) (.seq (.region [⟨none, (some 31), .inl (.mv (.s 12))⟩,
     ⟨none, (some 32), .inl (.mv (.s 1))⟩,
     ⟨none, (some 33), .inl (.mv (.s 9))⟩,
     ⟨none, (some 34), .inl (.fa (.s 11) 2)⟩,
     ⟨none, (some 35), .inl (.ld false 1 (.s 34))⟩,
     ⟨none, (some 36), .inl (.fa (.s 11) 1)⟩,
     ⟨none, (some 37), .inl (.ld false 1 (.s 36))⟩,
     ⟨none, (some 38), .inl (.bin .sub (.s 35) (.s 37))⟩,
     ⟨none, (some 39), .inl (.bin .add (.s 38) (.c (.int .i64 1)))⟩,
     ⟨none, (some 40), .inr (.fn 65 [(.s 32), (.s 33), (.s 39)])⟩,
     ⟨none, (some 41), .inl (.bin .add (.s 31) (.s 40))⟩,
     ⟨none, (some 12), .inl (.mv (.s 41))⟩])
   (.region [⟨none, (some 42), .inl (.mv (.s 9))⟩,
     ⟨none, (some 43), .inl (.bin .add (.s 42) (.c (.int .i64 1)))⟩,
     ⟨none, (some 9), .inl (.mv (.s 43))⟩]))
  (.skip)))
  (.region [⟨none, (some 44), .inl (.mv (.s 8))⟩,
    ⟨none, (some 45), .inl (.ld true 7 (.s 11))⟩,
    ⟨none, (some 46), .inl (.mv (.s 12))⟩,
    ⟨none, (some 47), .inr (.fn 66 [(.s 45), (.s 46)])⟩,
    ⟨none, (some 48), .inl (.app 3 1 8 (.s 44) (.s 47))⟩,
    ⟨none, (some 8), .inl (.mv (.s 48))⟩])))))
  (.region [⟨none, (some 49), .inl (.bin .add (.s 23) (.c (.int .i64 1)))⟩,
    ⟨none, (some 23), .inl (.mv (.s 49))⟩])))
/-- gyttja/sheet.Read -/
def k35 : Cd :=
  .seq (.region [⟨none, (some 4), .inl (.mv (.c (.slice none 0 0)))⟩,
    ⟨none, (some 5), .inl (.mv (.c (.int .i64 0)))⟩])
  (.seq (.region [⟨none, (some 14), .inl (.mv (.s 0))⟩,
    ⟨none, (some 15), .inr (.fn 62 [(.s 14)])⟩,
    ⟨none, (some 13), .inl (.mv (.s 15))⟩,
    ⟨none, (some 16), .inl (.ex (.s 13) 0)⟩,
    ⟨none, (some 17), .inl (.ex (.s 13) 1)⟩,
    ⟨none, (some 6), .inl (.mv (.s 16))⟩,
    ⟨none, (some 7), .inl (.mv (.s 17))⟩])
  (.seq (.seq (.region [⟨none, (some 18), .inl (.mv (.s 7))⟩,
    ⟨none, (some 19), .inl (.bin .neq (.s 18) (.c (.int .i64 0)))⟩])
  (.cond (.s 19) (.seq (.region [⟨none, (some 20), .inl (.mv (.s 7))⟩,
     ⟨none, (some 4), .inl (.mv (.c (.slice none 0 0)))⟩,
     ⟨none, (some 5), .inl (.mv (.s 20))⟩])
   (.ret))
  (.skip)))
  (.seq (.region [⟨none, (some 8), .inl (.mv (.c (.slice none 0 0)))⟩])
  (.seq (.region [⟨none, (some 9), .inl (.mv (.c (.int .i64 0)))⟩])
  (.seq (.seq (.region [⟨none, (some 21), .inl (.mv (.s 6))⟩,
    ⟨none, (some 22), .inl (.len (.s 21))⟩,
    ⟨none, (some 23), .inl (.mv (.c (.int .i64 0)))⟩])
  (.block 0 (.loop k35l0)))
  (.seq (.region [⟨none, (some 50), .inl (.mv (.s 8))⟩,
    ⟨none, (some 4), .inl (.mv (.s 50))⟩,
    ⟨none, (some 5), .inl (.mv (.c (.int .i64 0)))⟩])
  (.ret)))))))
def k36l0 : Cd :=
  .seq (.region [⟨none, (some 20), .inl (.bin .lss (.s 19) (.s 18))⟩])
  (.seq (.cond (.s 20) (.skip)
  (.exit 0))
  (.seq (.block 1 (.seq (.region [⟨none, (some 21), .inl (.ias 7 (.s 17) (.s 19))⟩,
    ⟨none, (some 22), .inl (.ld true 7 (.s 21))⟩,
    ⟨none, (some 8), .inl (.alloc 104 [(.bool false), (.int .i64 0), (.int .i64 0), (.slice none 0 0), (.int .i64 0), (.bool false), (.bool false)])⟩,
    ⟨none, none, .inl (.st 7 (.s 8) (.s 22))⟩])
  (.draw [⟨⟨none, (some 23), .inl (.mv (.s 6))⟩, (some []), [], 0, false⟩,
    ⟨⟨none, (some 24), .inl (.fa (.s 8) 4)⟩, (some []), [], 0, false⟩,
    ⟨⟨none, (some 25), .inl (.ld false 1 (.s 24))⟩, (some []), [], 2, false⟩,
    ⟨⟨none, (some 26), .inl (.fa (.s 8) 3)⟩, (some []), [], 0, false⟩,
    ⟨⟨none, (some 27), .inl (.ld false 1 (.s 26))⟩, (some []), [], 8, false⟩,
    ⟨⟨none, (some 28), .inr (.fn 68 [(.s 27)])⟩, (some []), [], 24, false⟩,
    ⟨⟨none, (some 29), .inl (.bin .add (.s 25) (.s 28))⟩, (some []), [], 62, false⟩,
    ⟨⟨none, (some 30), .inl (.bin .add (.s 23) (.s 29))⟩, (some []), [], 127, false⟩,
    ⟨⟨none, (some 6), .inl (.mv (.s 30))⟩, (some []), [], 255, false⟩])))
  (.region [⟨none, (some 31), .inl (.bin .add (.s 19) (.c (.int .i64 1)))⟩,
    ⟨none, (some 19), .inl (.mv (.s 31))⟩])))
/-- gyttja/sheet.Length -/
def k36 : Cd :=
  .seq (.region [⟨none, (some 2), .inl (.mv (.c (.int .i64 0)))⟩,
    ⟨none, (some 3), .inl (.mv (.c (.int .i64 0)))⟩])
  (.seq (.region [⟨none, (some 10), .inl (.mv (.s 0))⟩,
    ⟨none, (some 11), .inr (.fn 67 [(.s 10)])⟩,
    ⟨none, (some 9), .inl (.mv (.s 11))⟩,
    ⟨none, (some 12), .inl (.ex (.s 9) 0)⟩,
    ⟨none, (some 13), .inl (.ex (.s 9) 1)⟩,
    ⟨none, (some 4), .inl (.mv (.s 12))⟩,
    ⟨none, (some 5), .inl (.mv (.s 13))⟩])
  (.seq (.seq (.region [⟨none, (some 14), .inl (.mv (.s 5))⟩,
    ⟨none, (some 15), .inl (.bin .neq (.s 14) (.c (.int .i64 0)))⟩])
  (.cond (.s 15) (.seq (.region [⟨none, (some 16), .inl (.mv (.s 5))⟩,
     ⟨none, (some 2), .inl (.mv (.c (.int .i64 0)))⟩,
     ⟨none, (some 3), .inl (.mv (.s 16))⟩])
   (.ret))
  (.skip)))
  (.seq (.region [⟨none, (some 6), .inl (.mv (.c (.int .i64 0)))⟩])
  (.seq (.seq (.region [⟨none, (some 17), .inl (.mv (.s 4))⟩,
    ⟨none, (some 18), .inl (.len (.s 17))⟩,
    ⟨none, (some 19), .inl (.mv (.c (.int .i64 0)))⟩])
  (.block 0 (.loop k36l0)))
  (.seq (.region [⟨none, (some 32), .inl (.mv (.s 6))⟩,
    ⟨none, (some 2), .inl (.mv (.s 32))⟩,
    ⟨none, (some 3), .inl (.mv (.c (.int .i64 0)))⟩])
  (.ret))))))
/-- gyttja/sheet.Mark -/
def k37 : Cd :=
  .seq (.region [⟨none, (some 4), .inl (.mv (.c (.int .i64 0)))⟩])
  (.seq (.seq (.region [⟨none, (some 5), .inl (.mv (.s 0))⟩,
    ⟨none, (some 6), .inr (.fn 69 [(.s 5), (.c (.int .i64 0)), (.c (.int .i64 31))])⟩,
    ⟨none, (some 7), .inl (.not (.s 6))⟩,
    ⟨none, (some 8), .inl (.mv (.s 7))⟩,
    ⟨(some (8, false)), (some 9), .inl (.mv (.s 1))⟩,
    ⟨(some (8, false)), (some 10), .inr (.fn 69 [(.s 9), (.c (.int .i64 0)), (.c (.int .i64 63))])⟩,
    ⟨(some (8, false)), (some 11), .inl (.not (.s 10))⟩,
    ⟨none, (some 12), .inl (.pick (.s 8) (.c (.bool true)) (.s 11))⟩])
  (.cond (.s 12) (.seq (.region [⟨none, (some 4), .inl (.mv (.c (.int .i64 (-1))))⟩])
   (.ret))
  (.skip)))
  (.seq (.region [⟨none, (some 13), .inl (.mv (.s 0))⟩,
    ⟨none, (some 14), .inl (.bin .mul (.c (.int .i64 64)) (.s 13))⟩,
    ⟨none, (some 15), .inl (.mv (.s 1))⟩,
    ⟨none, (some 16), .inl (.bin .add (.s 14) (.s 15))⟩,
    ⟨none, (some 17), .inl (.bin .add (.s 16) (.c (.int .i64 1)))⟩,
    ⟨none, (some 4), .inl (.mv (.s 17))⟩])
  (.ret)))
/-- gyttja/sheet.Parse$1 -/
def k38 : Cd :=
  .seq (.region [⟨none, (some 6), .inr (.rcv)⟩,
    ⟨none, (some 7), .inl (.ta 64 (.int .i64 0) (.s 6))⟩,
    ⟨none, (some 5), .inl (.mv (.s 7))⟩,
    ⟨none, (some 8), .inl (.ex (.s 5) 0)⟩,
    ⟨none, (some 9), .inl (.ex (.s 5) 1)⟩,
    ⟨none, (some 3), .inl (.mv (.s 8))⟩,
    ⟨none, (some 4), .inl (.mv (.s 9))⟩])
  (.seq (.region [⟨none, (some 10), .inl (.mv (.s 4))⟩])
  (.cond (.s 10) (.region [⟨none, (some 11), .inl (.bld [(.int .i64 0), (.int .i64 0), (.int .i64 0), (.slice none 0 0)] [])⟩,
     ⟨none, (some 12), .inl (.mv (.s 3))⟩,
     ⟨none, none, .inl (.st 4 (.s 0) (.s 11))⟩,
     ⟨none, none, .inl (.st 1 (.s 1) (.s 12))⟩,
     ⟨none, none, .inl (.st 1 (.s 2) (.c (.int .i64 12)))⟩])
  (.skip)))
def k39l0 : Cd :=
  .region [⟨none, (some 6), .inl (.mv (.s 10))⟩]
def k39l1 : Cd :=
  .block 1 (.seq (.region [⟨none, (some 11), .inl (.ld false 1 (.s 4))⟩,
    ⟨none, (some 12), .inl (.bin .add (.s 11) (.c (.int .i64 1)))⟩,
    ⟨none, none, .inl (.st 1 (.s 4) (.s 12))⟩])
  (.seq (.region [⟨none, (some 13), .inl (.mv (.s 6))⟩,
    ⟨none, (some 14), .inr (.fn 72 [(.s 13), (.c (.string ⟨#[10]⟩))])⟩,
    ⟨none, (some 15), .inr (.fn 71 [(.s 14)])⟩,
    ⟨none, (some 7), .inl (.mv (.s 15))⟩])
  (.seq (.seq (.region [⟨none, (some 16), .inl (.mv (.s 7))⟩,
    ⟨none, (some 17), .inl (.len (.s 16))⟩,
    ⟨none, (some 18), .inl (.bin .eql (.s 17) (.c (.int .i64 0)))⟩,
    ⟨none, (some 19), .inl (.mv (.s 18))⟩,
    ⟨(some (19, false)), (some 20), .inl (.mv (.s 6))⟩,
    ⟨(some (19, false)), (some 21), .inl (.ixs (.s 20) (.c (.int .i64 0)))⟩,
    ⟨(some (19, false)), (some 22), .inl (.bin .eql (.s 21) (.c (.int .u8 35)))⟩,
    ⟨none, (some 23), .inl (.pick (.s 19) (.c (.bool true)) (.s 22))⟩])
  (.cond (.s 23) (.exit 1)
  (.skip)))
  (.seq (.region [⟨none, (some 24), .inl (.ld false 1 (.s 5))⟩])
  (.cond (.s 24) (.draw [⟨⟨none, (some 25), .inl (.fa (.s 3) 3)⟩, (some []), [], 0, false⟩,
     ⟨⟨none, (some 26), .inl (.ld false 1 (.s 25))⟩, (some []), [.fr 30], 1, false⟩,
     ⟨⟨none, (some 27), .inl (.ld false 1 (.s 4))⟩, (some []), [], 0, false⟩,
     ⟨⟨none, (some 28), .inl (.mv (.s 7))⟩, (some []), [], 0, false⟩,
     ⟨⟨none, (some 29), .inr (.fn 73 [(.s 27), (.s 28)])⟩, (some []), [], 12, false⟩,
     ⟨⟨none, (some 30), .inl (.bs 71 3 1 [(.int .i64 0), (.int .i64 0), (.int .i64 0)] [(0, (.s 29))])⟩, (some [.fr 30]), [], 28, false⟩,
     ⟨⟨none, (some 31), .inl (.app 71 3 24 (.s 26) (.s 30))⟩, (some [.fr 31, .at 26]), [], 63, false⟩,
     ⟨⟨none, (some 32), .inl (.fa (.s 3) 3)⟩, (some []), [], 127, false⟩,
     ⟨⟨none, none, .inl (.st 1 (.s 32) (.s 31))⟩, (some [.at 3]), [], 255, false⟩])
  (.region [⟨none, (some 33), .inl (.ld false 1 (.s 4))⟩,
     ⟨none, (some 34), .inl (.mv (.s 7))⟩,
     ⟨none, (some 35), .inr (.fn 74 [(.s 33), (.s 34)])⟩,
     ⟨none, none, .inl (.st 4 (.s 3) (.s 35))⟩,
     ⟨none, none, .inl (.st 1 (.s 5) (.c (.bool true)))⟩]))))))
/-- gyttja/sheet.parseLines -/
def k39 : Cd :=
  .seq (.region [⟨none, (some 2), .inl (.alloc 25 [(.int .i64 0), (.int .i64 0), (.int .i64 0), (.slice none 0 0)])⟩])
  (.seq (.region [⟨none, (some 3), .inl (.alloc 25 [(.int .i64 0), (.int .i64 0), (.int .i64 0), (.slice none 0 0)])⟩])
  (.seq (.region [⟨none, (some 4), .inl (.alloc 3 [(.int .i64 0)])⟩,
    ⟨none, (some 5), .inl (.alloc 4 [(.bool false)])⟩,
    ⟨none, none, .inl (.st 1 (.s 4) (.c (.int .i64 0)))⟩,
    ⟨none, none, .inl (.st 1 (.s 5) (.c (.bool false)))⟩])
  (.seq (.seq (.region [⟨none, (some 8), .inl (.mv (.s 0))⟩,
    ⟨none, (some 9), .inr (.fn 70 [(.s 8)])⟩])
  (.block 0 (.rangeF (.s 9) [10] k39l0 k39l1)))
  (.seq (.seq (.region [⟨none, (some 36), .inl (.ld false 1 (.s 5))⟩,
    ⟨none, (some 37), .inl (.not (.s 36))⟩])
  (.cond (.s 37) (.region [⟨none, (some 38), .inl (.ld false 1 (.s 4))⟩,
     ⟨none, (some 39), .inl (.bin .add (.s 38) (.c (.int .i64 1)))⟩,
     ⟨none, (some 40), .inl (.mki 64 (.s 39))⟩,
     ⟨none, none, .inr (.pan (.s 40))⟩])
  (.skip)))
  (.seq (.region [⟨none, (some 41), .inl (.ld true 4 (.s 3))⟩,
    ⟨none, none, .inl (.st 4 (.s 2) (.s 41))⟩])
  (.ret))))))
def k40l0 : Cd :=
  .seq (.region [⟨none, (some 5), .inl (.mv (.s 34))⟩])
  (.region [⟨none, (some 6), .inl (.alloc 71 [(.int .i64 0), (.int .i64 0), (.int .i64 0)])⟩,
    ⟨none, none, .inl (.st 3 (.s 6) (.s 35))⟩])
def k40l1 : Cd :=
  .block 1 (.seq (.region [⟨none, (some 36), .inl (.fa (.s 6) 0)⟩,
    ⟨none, (some 37), .inl (.ld false 1 (.s 36))⟩,
    ⟨none, (some 38), .inl (.bin .eql (.s 37) (.c (.int .i64 1)))⟩,
    ⟨none, (some 39), .inl (.mv (.s 38))⟩,
    ⟨(some (39, true)), (some 40), .inl (.fa (.s 1) 2)⟩,
    ⟨(some (39, true)), (some 41), .inl (.ld false 1 (.s 40))⟩,
    ⟨(some (39, true)), (some 42), .inl (.fa (.s 6) 1)⟩,
    ⟨(some (39, true)), (some 43), .inl (.ld false 1 (.s 42))⟩,
    ⟨(some (39, true)), (some 44), .inr (.fn 37 [(.s 41), (.s 43)])⟩,
    ⟨(some (39, true)), (some 45), .inl (.mv (.s 5))⟩,
    ⟨(some (39, true)), (some 46), .inl (.bin .leq (.s 44) (.s 45))⟩,
    ⟨none, (some 47), .inl (.pick (.s 39) (.s 46) (.c (.bool false)))⟩])
  (.cond (.s 47) (.seq (.region [⟨none, none, .inl (.st 1 (.s 2) (.c (.int .i64 15)))⟩])
   (.ret))
  (.skip)))
/-- gyttja/sheet.Check -/
def k40 : Cd :=
  .seq (.region [⟨none, (some 1), .inl (.box 25 4 (.s 0))⟩,
    ⟨none, (some 2), .inl (.alloc 26 [(.int .i64 0)])⟩])
  (.seq (.seq (.region [⟨none, (some 7), .inl (.fa (.s 1) 0)⟩,
    ⟨none, (some 8), .inl (.ld false 1 (.s 7))⟩,
    ⟨none, (some 9), .inr (.fn 69 [(.s 8), (.c (.int .i64 1)), (.c (.int .i64 99999))])⟩,
    ⟨none, (some 10), .inl (.not (.s 9))⟩,
    ⟨none, (some 11), .inl (.mv (.s 10))⟩,
    ⟨(some (11, false)), (some 12), .inl (.fa (.s 1) 1)⟩,
    ⟨(some (11, false)), (some 13), .inl (.ld false 1 (.s 12))⟩,
    ⟨(some (11, false)), (some 14), .inr (.fn 69 [(.s 13), (.c (.int .i64 1)), (.c (.int .i64 99))])⟩,
    ⟨(some (11, false)), (some 15), .inl (.not (.s 14))⟩,
    ⟨none, (some 16), .inl (.pick (.s 11) (.c (.bool true)) (.s 15))⟩,
    ⟨none, (some 17), .inl (.mv (.s 16))⟩,
    ⟨(some (17, false)), (some 18), .inl (.fa (.s 1) 2)⟩,
    ⟨(some (17, false)), (some 19), .inl (.ld false 1 (.s 18))⟩,
    ⟨(some (17, false)), (some 20), .inr (.fn 69 [(.s 19), (.c (.int .i64 0)), (.c (.int .i64 31))])⟩,
    ⟨(some (17, false)), (some 21), .inl (.not (.s 20))⟩,
    ⟨none, (some 22), .inl (.pick (.s 17) (.c (.bool true)) (.s 21))⟩])
  (.cond (.s 22) (.seq (.region [⟨none, none, .inl (.st 1 (.s 2) (.c (.int .i64 11)))⟩])
   (.ret))
  (.skip)))
  (.seq (.seq (.region [⟨none, (some 24), .inl (.fa (.s 1) 3)⟩,
    ⟨none, (some 25), .inl (.ld false 1 (.s 24))⟩,
    ⟨none, (some 26), .inr (.fn 62 [(.s 25)])⟩,
    ⟨none, (some 23), .inl (.mv (.s 26))⟩,
    ⟨none, (some 27), .inl (.ex (.s 23) 0)⟩,
    ⟨none, (some 28), .inl (.ex (.s 23) 1)⟩,
    ⟨none, (some 3), .inl (.mv (.s 27))⟩,
    ⟨none, (some 4), .inl (.mv (.s 28))⟩])
  (.seq (.region [⟨none, (some 29), .inl (.mv (.s 4))⟩,
    ⟨none, (some 30), .inl (.bin .neq (.s 29) (.c (.int .i64 0)))⟩])
  (.cond (.s 30) (.seq (.region [⟨none, (some 31), .inl (.mv (.s 4))⟩,
     ⟨none, none, .inl (.st 1 (.s 2) (.s 31))⟩])
   (.ret))
  (.skip))))
  (.seq (.seq (.region [⟨none, (some 32), .inl (.ld true 4 (.s 1))⟩,
    ⟨none, (some 33), .inr (.fn 61 [(.s 32)])⟩])
  (.block 0 (.rangeF (.s 33) [34, 35] k40l0 k40l1)))
  (.seq (.region [⟨none, none, .inl (.st 1 (.s 2) (.c (.int .i64 0)))⟩])
  (.ret)))))
def k45l0 : Cd :=
  .seq (.seq (.region [⟨none, (some 34), .inl (.mv (.s 7))⟩,
    ⟨none, (some 35), .inl (.fa (.s 1) 3)⟩,
    ⟨none, (some 36), .inl (.ld false 1 (.s 35))⟩,
    ⟨none, (some 37), .inl (.len (.s 36))⟩,
    ⟨none, (some 38), .inl (.bin .lss (.s 34) (.s 37))⟩])
  (.cond (.s 38) (.skip)
  (.exit 0)))
  (.seq (.block 1 (.seq (.region [⟨none, (some 41), .inl (.fa (.s 1) 3)⟩,
    ⟨none, (some 42), .inl (.ld false 1 (.s 41))⟩,
    ⟨none, (some 43), .inl (.mv (.s 7))⟩,
    ⟨none, (some 44), .inl (.ias 3 (.s 42) (.s 43))⟩,
    ⟨none, (some 45), .inl (.fa (.s 44) 0)⟩,
    ⟨none, (some 46), .inl (.ld false 1 (.s 45))⟩,
    ⟨none, (some 47), .inl (.bin .eql (.s 46) (.c (.int .i64 1)))⟩])
  (.cond (.s 47) (.seq (.seq (.region [⟨none, (some 48), .inl (.fa (.s 1) 3)⟩,
     ⟨none, (some 49), .inl (.ld false 1 (.s 48))⟩,
     ⟨none, (some 50), .inl (.mv (.s 7))⟩,
     ⟨none, (some 51), .inl (.ias 3 (.s 49) (.s 50))⟩,
     ⟨none, (some 52), .inl (.fa (.s 51) 1)⟩,
     ⟨none, (some 53), .inl (.ld false 1 (.s 52))⟩,
     ⟨none, (some 54), .inl (.mv (.s 6))⟩,
     ⟨none, (some 55), .inl (.bin .leq (.s 53) (.s 54))⟩])
   (.cond (.s 55) (.seq (.region [⟨none, (some 2), .inl (.mv (.c (.int .i64 15)))⟩])
    (.ret))
   (.skip)))
   (.region [⟨none, (some 56), .inl (.fa (.s 1) 3)⟩,
     ⟨none, (some 57), .inl (.ld false 1 (.s 56))⟩,
     ⟨none, (some 58), .inl (.mv (.s 7))⟩,
     ⟨none, (some 59), .inl (.ias 3 (.s 57) (.s 58))⟩,
     ⟨none, (some 60), .inl (.fa (.s 59) 1)⟩,
     ⟨none, (some 61), .inl (.ld false 1 (.s 60))⟩,
     ⟨none, (some 6), .inl (.mv (.s 61))⟩]))
  (.skip))))
  (.region [⟨none, (some 39), .inl (.mv (.s 7))⟩,
    ⟨none, (some 40), .inl (.bin .add (.s 39) (.c (.int .i64 1)))⟩,
    ⟨none, (some 7), .inl (.mv (.s 40))⟩]))
/-- gyttja/gyttjaref01.Check -/
def k45 : Cd :=
  .seq (.region [⟨none, (some 1), .inl (.box 25 4 (.s 0))⟩,
    ⟨none, (some 2), .inl (.mv (.c (.int .i64 0)))⟩])
  (.seq (.seq (.region [⟨none, (some 8), .inl (.fa (.s 1) 0)⟩,
    ⟨none, (some 9), .inl (.ld false 1 (.s 8))⟩,
    ⟨none, (some 10), .inr (.fn 76 [(.s 9), (.c (.int .i64 1)), (.c (.int .i64 99999))])⟩,
    ⟨none, (some 11), .inl (.not (.s 10))⟩,
    ⟨none, (some 12), .inl (.mv (.s 11))⟩,
    ⟨(some (12, false)), (some 13), .inl (.fa (.s 1) 1)⟩,
    ⟨(some (12, false)), (some 14), .inl (.ld false 1 (.s 13))⟩,
    ⟨(some (12, false)), (some 15), .inr (.fn 76 [(.s 14), (.c (.int .i64 1)), (.c (.int .i64 99))])⟩,
    ⟨(some (12, false)), (some 16), .inl (.not (.s 15))⟩,
    ⟨none, (some 17), .inl (.pick (.s 12) (.c (.bool true)) (.s 16))⟩,
    ⟨none, (some 18), .inl (.mv (.s 17))⟩,
    ⟨(some (18, false)), (some 19), .inl (.fa (.s 1) 2)⟩,
    ⟨(some (18, false)), (some 20), .inl (.ld false 1 (.s 19))⟩,
    ⟨(some (18, false)), (some 21), .inr (.fn 76 [(.s 20), (.c (.int .i64 0)), (.c (.int .i64 31))])⟩,
    ⟨(some (18, false)), (some 22), .inl (.not (.s 21))⟩,
    ⟨none, (some 23), .inl (.pick (.s 18) (.c (.bool true)) (.s 22))⟩])
  (.cond (.s 23) (.seq (.region [⟨none, (some 2), .inl (.mv (.c (.int .i64 11)))⟩])
   (.ret))
  (.skip)))
  (.seq (.region [⟨none, (some 25), .inl (.fa (.s 1) 3)⟩,
    ⟨none, (some 26), .inl (.ld false 1 (.s 25))⟩,
    ⟨none, (some 27), .inr (.fn 77 [(.s 26)])⟩,
    ⟨none, (some 24), .inl (.mv (.s 27))⟩,
    ⟨none, (some 28), .inl (.ex (.s 24) 0)⟩,
    ⟨none, (some 29), .inl (.ex (.s 24) 1)⟩,
    ⟨none, (some 30), .inl (.ex (.s 24) 2)⟩,
    ⟨none, (some 3), .inl (.mv (.s 28))⟩,
    ⟨none, (some 4), .inl (.mv (.s 29))⟩,
    ⟨none, (some 5), .inl (.mv (.s 30))⟩])
  (.seq (.seq (.region [⟨none, (some 31), .inl (.mv (.s 5))⟩,
    ⟨none, (some 32), .inl (.bin .neq (.s 31) (.c (.int .i64 0)))⟩])
  (.cond (.s 32) (.seq (.region [⟨none, (some 33), .inl (.mv (.s 5))⟩,
     ⟨none, (some 2), .inl (.mv (.s 33))⟩])
   (.ret))
  (.skip)))
  (.seq (.region [⟨none, (some 6), .inl (.mv (.c (.int .i64 (-1))))⟩])
  (.seq (.seq (.region [⟨none, (some 7), .inl (.mv (.c (.int .i64 0)))⟩])
  (.block 0 (.loop k45l0)))
  (.seq (.region [⟨none, (some 2), .inl (.mv (.c (.int .i64 0)))⟩])
  (.ret)))))))
/-- gyttja/sheet.checkInside -/
def k51 : Cd :=
  .seq (.region [⟨none, (some 3), .inl (.box 25 4 (.s 0))⟩,
    ⟨none, (some 6), .inl (.mv (.c (.int .i64 0)))⟩])
  (.seq (.seq (.region [⟨none, (some 8), .inl (.ld true 4 (.s 3))⟩,
    ⟨none, (some 9), .inl (.mv (.s 1))⟩,
    ⟨none, (some 10), .inl (.mv (.s 2))⟩,
    ⟨none, (some 11), .inr (.fn 56 [(.s 8), (.s 9), (.s 10)])⟩,
    ⟨none, (some 7), .inl (.mv (.s 11))⟩])
  (.seq (.region [⟨none, (some 12), .inl (.mv (.s 7))⟩,
    ⟨none, (some 13), .inl (.bin .neq (.s 12) (.c (.int .i64 0)))⟩])
  (.cond (.s 13) (.seq (.region [⟨none, (some 14), .inl (.mv (.s 7))⟩,
     ⟨none, (some 6), .inl (.mv (.s 14))⟩])
   (.ret))
  (.skip))))
  (.seq (.seq (.region [⟨none, (some 15), .inl (.mv (.s 2))⟩,
    ⟨none, (some 16), .inl (.mv (.s 1))⟩,
    ⟨none, (some 17), .inl (.bin .leq (.s 15) (.s 16))⟩])
  (.cond (.s 17) (.seq (.region [⟨none, (some 6), .inl (.mv (.c (.int .i64 15)))⟩])
   (.ret))
  (.skip)))
  (.seq (.region [⟨none, (some 6), .inl (.mv (.c (.int .i64 0)))⟩])
  (.ret))))
/-- slices.Clone[[]gyttja/api.Row,gyttja/api.Row] -/
def k52 : Cd :=
  .seq (.region [⟨none, (some 2), .inl (.mv (.c (.slice none 0 0)))⟩])
  (.seq (.seq (.region [⟨none, (some 3), .inl (.mv (.s 0))⟩,
    ⟨none, (some 4), .inl (.eq false (.nil .slice) (.s 3) (.c (.slice none 0 0)))⟩])
  (.cond (.s 4) (.seq (.region [⟨none, (some 2), .inl (.mv (.c (.slice none 0 0)))⟩])
   (.ret))
  (.skip)))
  (.seq (.region [⟨none, (some 5), .inl (.bs 71 3 0 [(.int .i64 0), (.int .i64 0), (.int .i64 0)] [])⟩,
    ⟨none, (some 6), .inl (.mv (.s 0))⟩,
    ⟨none, (some 7), .inl (.app 71 3 24 (.s 5) (.s 6))⟩,
    ⟨none, (some 2), .inl (.mv (.s 7))⟩])
  (.ret)))
/-- gyttja/sheet.rowOf -/
def k53 : Cd :=
  .seq (.region [⟨none, (some 2), .inl (.box 25 4 (.s 0))⟩,
    ⟨none, (some 4), .inl (.mv (.c (.int .i64 0)))⟩])
  (.seq (.region [⟨none, (some 8), .inl (.mv (.s 1))⟩,
    ⟨none, (some 9), .inr (.fn 80 [(.s 8)])⟩,
    ⟨none, (some 7), .inl (.mv (.s 9))⟩,
    ⟨none, (some 10), .inl (.ex (.s 7) 0)⟩,
    ⟨none, (some 11), .inl (.ex (.s 7) 1)⟩,
    ⟨none, (some 5), .inl (.mv (.s 10))⟩,
    ⟨none, (some 6), .inl (.mv (.s 11))⟩])
  (.seq (.seq (.region [⟨none, (some 12), .inl (.mv (.s 5))⟩,
    ⟨none, (some 13), .inl (.fa (.s 2) 2)⟩,
    ⟨none, (some 14), .inl (.ld false 1 (.s 13))⟩,
    ⟨none, (some 15), .inl (.bin .neq (.s 12) (.s 14))⟩])
  (.cond (.s 15) (.seq (.region [⟨none, (some 4), .inl (.mv (.c (.int .i64 (-1))))⟩])
   (.ret))
  (.skip)))
  (.seq (.region [⟨none, (some 16), .inl (.fa (.s 2) 3)⟩,
    ⟨none, (some 17), .inl (.ld false 1 (.s 16))⟩,
    ⟨none, (some 18), .inl (.mv (.s 6))⟩,
    ⟨none, (some 19), .inl (.bld [(.int .i64 0), (.int .i64 0), (.int .i64 0)] [(0, 1, (.c (.int .i64 1))), (1, 1, (.s 18))])⟩,
    ⟨none, (some 20), .inr (.fn 81 [(.s 17), (.s 19)])⟩,
    ⟨none, (some 4), .inl (.mv (.s 20))⟩])
  (.ret))))
/-- gyttja/gyttjaref01.cut -/
def k54 : Cd :=
  .seq (.region [⟨none, (some 4), .inl (.box 25 4 (.s 0))⟩,
    ⟨none, (some 8), .inl (.mv (.c (.int .i64 0)))⟩,
    ⟨none, (some 9), .inl (.mv (.c (.int .i64 0)))⟩,
    ⟨none, (some 10), .inl (.mv (.c (.int .i64 0)))⟩])
  (.seq (.region [⟨none, (some 14), .inl (.ld true 4 (.s 4))⟩,
    ⟨none, (some 15), .inr (.fn 45 [(.s 14)])⟩,
    ⟨none, (some 11), .inl (.mv (.s 15))⟩])
  (.seq (.seq (.region [⟨none, (some 16), .inl (.mv (.s 11))⟩,
    ⟨none, (some 17), .inl (.bin .neq (.s 16) (.c (.int .i64 0)))⟩])
  (.cond (.s 17) (.seq (.region [⟨none, (some 18), .inl (.mv (.s 11))⟩,
     ⟨none, (some 8), .inl (.mv (.c (.int .i64 0)))⟩,
     ⟨none, (some 9), .inl (.mv (.c (.int .i64 0)))⟩,
     ⟨none, (some 10), .inl (.mv (.s 18))⟩])
   (.ret))
  (.skip)))
  (.seq (.region [⟨none, (some 19), .inl (.ld true 4 (.s 4))⟩,
    ⟨none, (some 20), .inl (.mv (.s 1))⟩,
    ⟨none, (some 21), .inr (.fn 82 [(.s 19), (.s 20)])⟩,
    ⟨none, (some 12), .inl (.mv (.s 21))⟩])
  (.seq (.region [⟨none, (some 22), .inl (.ld true 4 (.s 4))⟩,
    ⟨none, (some 23), .inl (.mv (.s 2))⟩,
    ⟨none, (some 24), .inr (.fn 82 [(.s 22), (.s 23)])⟩,
    ⟨none, (some 13), .inl (.mv (.s 24))⟩])
  (.seq (.seq (.region [⟨none, (some 25), .inl (.mv (.s 12))⟩,
    ⟨none, (some 26), .inl (.bin .lss (.s 25) (.c (.int .i64 0)))⟩,
    ⟨none, (some 27), .inl (.mv (.s 26))⟩,
    ⟨(some (27, false)), (some 28), .inl (.mv (.s 13))⟩,
    ⟨(some (27, false)), (some 29), .inl (.bin .lss (.s 28) (.c (.int .i64 0)))⟩,
    ⟨none, (some 30), .inl (.pick (.s 27) (.c (.bool true)) (.s 29))⟩])
  (.cond (.s 30) (.seq (.region [⟨none, (some 8), .inl (.mv (.c (.int .i64 0)))⟩,
     ⟨none, (some 9), .inl (.mv (.c (.int .i64 0)))⟩,
     ⟨none, (some 10), .inl (.mv (.c (.int .i64 3)))⟩])
   (.ret))
  (.skip)))
  (.seq (.seq (.region [⟨none, (some 31), .inl (.mv (.s 12))⟩,
    ⟨none, (some 32), .inl (.mv (.s 13))⟩,
    ⟨none, (some 33), .inl (.bin .gtr (.s 31) (.s 32))⟩,
    ⟨none, (some 34), .inl (.mv (.s 33))⟩,
    ⟨(some (34, false)), (some 35), .inl (.mv (.s 3))⟩,
    ⟨(some (34, false)), (some 36), .inl (.mv (.s 35))⟩,
    ⟨(some (36, true)), (some 37), .inl (.mv (.s 12))⟩,
    ⟨(some (36, true)), (some 38), .inl (.mv (.s 13))⟩,
    ⟨(some (36, true)), (some 39), .inl (.bin .eql (.s 37) (.s 38))⟩,
    ⟨(some (34, false)), (some 40), .inl (.pick (.s 36) (.s 39) (.c (.bool false)))⟩,
    ⟨none, (some 41), .inl (.pick (.s 34) (.c (.bool true)) (.s 40))⟩])
  (.cond (.s 41) (.seq (.region [⟨none, (some 8), .inl (.mv (.c (.int .i64 0)))⟩,
     ⟨none, (some 9), .inl (.mv (.c (.int .i64 0)))⟩,
     ⟨none, (some 10), .inl (.mv (.c (.int .i64 15)))⟩])
   (.ret))
  (.skip)))
  (.seq (.region [⟨none, (some 42), .inl (.mv (.s 12))⟩,
    ⟨none, (some 43), .inl (.mv (.s 13))⟩,
    ⟨none, (some 8), .inl (.mv (.s 42))⟩,
    ⟨none, (some 9), .inl (.mv (.s 43))⟩,
    ⟨none, (some 10), .inl (.mv (.c (.int .i64 0)))⟩])
  (.ret))))))))
def k55l0 : Cd :=
  .seq (.region [⟨none, (some 12), .inl (.bin .lss (.s 11) (.s 10))⟩])
  (.seq (.cond (.s 12) (.skip)
  (.exit 0))
  (.seq (.block 1 (.seq (.region [⟨none, (some 13), .inl (.ias 1 (.s 9) (.s 11))⟩,
    ⟨none, (some 14), .inl (.ld false 1 (.s 13))⟩,
    ⟨none, (some 5), .inl (.mv (.s 14))⟩])
  (.seq (.region [⟨none, (some 15), .inl (.mv (.s 3))⟩,
    ⟨none, (some 16), .inl (.mv (.s 5))⟩,
    ⟨none, (some 17), .inl (.len (.s 16))⟩,
    ⟨none, (some 18), .inl (.bin .add (.s 15) (.s 17))⟩,
    ⟨none, (some 3), .inl (.mv (.s 18))⟩])
  (.seq (.region [⟨none, (some 19), .inl (.mv (.s 3))⟩,
    ⟨none, (some 20), .inl (.bin .lss (.s 19) (.c (.int .i64 0)))⟩])
  (.cond (.s 20) (.region [⟨none, (some 21), .inl (.mki 9 (.c (.string ⟨#[108, 101, 110, 32, 111, 117, 116, 32, 111, 102, 32, 114, 97, 110, 103, 101]⟩)))⟩,
     ⟨none, none, .inr (.pan (.s 21))⟩])
  (.skip))))))
  (.region [⟨none, (some 22), .inl (.bin .add (.s 11) (.c (.int .i64 1)))⟩,
    ⟨none, (some 11), .inl (.mv (.s 22))⟩])))
def k55l1 : Cd :=
  .seq (.region [⟨none, (some 28), .inl (.bin .lss (.s 27) (.s 26))⟩])
  (.seq (.cond (.s 28) (.skip)
  (.exit 2))
  (.seq (.block 3 (.seq (.region [⟨none, (some 29), .inl (.ias 1 (.s 25) (.s 27))⟩,
    ⟨none, (some 30), .inl (.ld false 1 (.s 29))⟩,
    ⟨none, (some 8), .inl (.mv (.s 30))⟩])
  (.region [⟨none, (some 31), .inl (.mv (.s 6))⟩,
    ⟨none, (some 32), .inl (.mv (.s 8))⟩,
    ⟨none, (some 33), .inl (.app 71 3 24 (.s 31) (.s 32))⟩,
    ⟨none, (some 6), .inl (.mv (.s 33))⟩])))
  (.region [⟨none, (some 34), .inl (.bin .add (.s 27) (.c (.int .i64 1)))⟩,
    ⟨none, (some 27), .inl (.mv (.s 34))⟩])))
/-- slices.Concat[[]gyttja/api.Row,gyttja/api.Row] -/
def k55 : Cd :=
  .seq (.region [⟨none, (some 2), .inl (.mv (.c (.slice none 0 0)))⟩])
  (.seq (.region [⟨none, (some 3), .inl (.mv (.c (.int .i64 0)))⟩])
  (.seq (.seq (.region [⟨none, (some 9), .inl (.mv (.s 0))⟩,
    ⟨none, (some 10), .inl (.len (.s 9))⟩,
    ⟨none, (some 11), .inl (.mv (.c (.int .i64 0)))⟩])
  (.block 0 (.loop k55l0)))
  (.seq (.region [⟨none, (some 23), .inl (.mv (.s 3))⟩,
    ⟨none, (some 24), .inr (.fn 83 [(.c (.slice none 0 0)), (.s 23)])⟩,
    ⟨none, (some 6), .inl (.mv (.s 24))⟩])
  (.seq (.seq (.region [⟨none, (some 25), .inl (.mv (.s 0))⟩,
    ⟨none, (some 26), .inl (.len (.s 25))⟩,
    ⟨none, (some 27), .inl (.mv (.c (.int .i64 0)))⟩])
  (.block 2 (.loop k55l1)))
  (.seq (.region [⟨none, (some 35), .inl (.mv (.s 6))⟩,
    ⟨none, (some 2), .inl (.mv (.s 35))⟩])
  (.ret))))))
/-- gyttja/sheet.checkEnds -/
def k56 : Cd :=
  .seq (.region [⟨none, (some 3), .inl (.box 25 4 (.s 0))⟩,
    ⟨none, (some 6), .inl (.mv (.c (.int .i64 0)))⟩])
  (.seq (.seq (.region [⟨none, (some 8), .inl (.ld true 4 (.s 3))⟩,
    ⟨none, (some 9), .inr (.fn 40 [(.s 8)])⟩,
    ⟨none, (some 7), .inl (.mv (.s 9))⟩])
  (.seq (.region [⟨none, (some 10), .inl (.mv (.s 7))⟩,
    ⟨none, (some 11), .inl (.bin .neq (.s 10) (.c (.int .i64 0)))⟩])
  (.cond (.s 11) (.seq (.region [⟨none, (some 12), .inl (.mv (.s 7))⟩,
     ⟨none, (some 6), .inl (.mv (.s 12))⟩])
   (.ret))
  (.skip))))
  (.seq (.seq (.region [⟨none, (some 13), .inl (.ld true 4 (.s 3))⟩,
    ⟨none, (some 14), .inl (.mv (.s 1))⟩,
    ⟨none, (some 15), .inr (.fn 53 [(.s 13), (.s 14)])⟩,
    ⟨none, (some 16), .inl (.bin .eql (.s 15) (.c (.int .i64 (-1))))⟩,
    ⟨none, (some 17), .inl (.mv (.s 16))⟩,
    ⟨(some (17, false)), (some 18), .inl (.ld true 4 (.s 3))⟩,
    ⟨(some (17, false)), (some 19), .inl (.mv (.s 2))⟩,
    ⟨(some (17, false)), (some 20), .inr (.fn 53 [(.s 18), (.s 19)])⟩,
    ⟨(some (17, false)), (some 21), .inl (.bin .eql (.s 20) (.c (.int .i64 (-1))))⟩,
    ⟨none, (some 22), .inl (.pick (.s 17) (.c (.bool true)) (.s 21))⟩])
  (.cond (.s 22) (.seq (.region [⟨none, (some 6), .inl (.mv (.c (.int .i64 3)))⟩])
   (.ret))
  (.skip)))
  (.seq (.region [⟨none, (some 6), .inl (.mv (.c (.int .i64 0)))⟩])
  (.ret))))
def k57l0 : Cd :=
  .seq (.region [⟨none, (some 23), .inl (.bin .lss (.s 22) (.s 21))⟩])
  (.seq (.cond (.s 23) (.skip)
  (.exit 0))
  (.seq (.block 1 (.seq (.region [⟨none, (some 24), .inl (.ias 4 (.s 20) (.s 22))⟩,
    ⟨none, (some 25), .inl (.ld true 4 (.s 24))⟩,
    ⟨none, (some 11), .inl (.alloc 54 [(.int .i64 0), (.int .i64 0), (.int .i64 0), (.int .i64 0)])⟩,
    ⟨none, none, .inl (.st 4 (.s 11) (.s 25))⟩])
  (.seq (.region [⟨none, (some 26), .inl (.mv (.s 2))⟩,
    ⟨none, (some 27), .inl (.ld true 4 (.s 11))⟩,
    ⟨none, (some 28), .inr (.val (.s 26) [(.s 27)])⟩])
  (.cond (.s 28) (.region [⟨none, (some 29), .inl (.mv (.s 9))⟩,
     ⟨none, (some 30), .inl (.ld true 4 (.s 11))⟩,
     ⟨none, (some 31), .inl (.bs 54 4 1 [(.int .i64 0), (.int .i64 0), (.int .i64 0), (.int .i64 0)] [(0, (.s 30))])⟩,
     ⟨none, (some 32), .inl (.app 54 4 32 (.s 29) (.s 31))⟩,
     ⟨none, (some 9), .inl (.mv (.s 32))⟩])
  (.skip)))))
  (.region [⟨none, (some 33), .inl (.bin .add (.s 22) (.c (.int .i64 1)))⟩,
    ⟨none, (some 22), .inl (.mv (.s 33))⟩])))
/-- gyttja/sheet.bothWhere -/
def k57 : Cd :=
  .seq (.region [⟨none, (some 3), .inl (.box 25 4 (.s 0))⟩,
    ⟨none, (some 4), .inl (.box 25 4 (.s 1))⟩,
    ⟨none, (some 6), .inl (.mv (.c (.slice none 0 0)))⟩,
    ⟨none, (some 7), .inl (.mv (.c (.int .i64 0)))⟩])
  (.seq (.seq (.region [⟨none, (some 12), .inl (.ld true 4 (.s 3))⟩,
    ⟨none, (some 13), .inl (.ld true 4 (.s 4))⟩,
    ⟨none, (some 14), .inr (.fn 84 [(.s 12), (.s 13)])⟩,
    ⟨none, (some 8), .inl (.mv (.s 14))⟩])
  (.seq (.region [⟨none, (some 15), .inl (.mv (.s 8))⟩,
    ⟨none, (some 16), .inl (.bin .neq (.s 15) (.c (.int .i64 0)))⟩])
  (.cond (.s 16) (.seq (.region [⟨none, (some 17), .inl (.mv (.s 8))⟩,
     ⟨none, (some 6), .inl (.mv (.c (.slice none 0 0)))⟩,
     ⟨none, (some 7), .inl (.mv (.s 17))⟩])
   (.ret))
  (.skip))))
  (.seq (.region [⟨none, (some 9), .inl (.mv (.c (.slice none 0 0)))⟩])
  (.seq (.seq (.region [⟨none, (some 18), .inl (.ld true 4 (.s 3))⟩,
    ⟨none, (some 19), .inl (.ld true 4 (.s 4))⟩,
    ⟨none, (some 20), .inr (.fn 85 [(.s 18), (.s 19)])⟩,
    ⟨none, (some 21), .inl (.len (.s 20))⟩,
    ⟨none, (some 22), .inl (.mv (.c (.int .i64 0)))⟩])
  (.block 0 (.loop k57l0)))
  (.seq (.region [⟨none, (some 34), .inl (.mv (.s 9))⟩,
    ⟨none, (some 6), .inl (.mv (.s 34))⟩,
    ⟨none, (some 7), .inl (.mv (.c (.int .i64 0)))⟩])
  (.ret)))))
/-- gyttja/sheet.Meet$1 -/
def k58 : Cd :=
  .seq (.region [⟨none, (some 1), .inl (.box 54 4 (.s 0))⟩,
    ⟨none, (some 2), .inl (.mv (.c (.bool false)))⟩])
  (.seq (.region [⟨none, (some 3), .inl (.fa (.s 1) 2)⟩,
    ⟨none, (some 4), .inl (.ld false 1 (.s 3))⟩,
    ⟨none, (some 5), .inl (.fa (.s 1) 3)⟩,
    ⟨none, (some 6), .inl (.ld false 1 (.s 5))⟩,
    ⟨none, (some 7), .inl (.bin .leq (.s 4) (.s 6))⟩,
    ⟨none, (some 2), .inl (.mv (.s 7))⟩])
  (.ret))
def k59l0 : Cd :=
  .seq (.seq (.region [⟨none, (some 32), .inl (.mv (.s 10))⟩,
    ⟨none, (some 33), .inl (.mv (.s 9))⟩,
    ⟨none, (some 34), .inl (.len (.s 33))⟩,
    ⟨none, (some 35), .inl (.bin .lss (.s 32) (.s 34))⟩])
  (.cond (.s 35) (.skip)
  (.exit 0)))
  (.seq (.block 1 (.seq (.seq (.draw [⟨⟨none, (some 38), .inl (.ld true 4 (.s 3))⟩, (some []), [], 0, false⟩,
    ⟨⟨none, (some 39), .inl (.mv (.s 9))⟩, (some []), [], 0, false⟩,
    ⟨⟨none, (some 40), .inl (.mv (.s 10))⟩, (some []), [], 0, false⟩,
    ⟨⟨none, (some 41), .inl (.ias 1 (.s 39) (.s 40))⟩, (some []), [], 6, false⟩,
    ⟨⟨none, (some 42), .inl (.ld false 1 (.s 41))⟩, (some []), [], 14, false⟩,
    ⟨⟨none, (some 43), .inr (.fn 82 [(.s 38), (.s 42)])⟩, (some []), [], 31, false⟩,
    ⟨⟨none, (some 44), .inl (.bin .lss (.s 43) (.c (.int .i64 0)))⟩, (some []), [], 63, false⟩])
  (.cond (.s 44) (.exit 1)
  (.skip)))
  (.seq (.seq (.region [⟨none, (some 45), .inl (.mv (.s 8))⟩,
    ⟨none, (some 46), .inl (.bin .geq (.s 45) (.c (.int .i64 0)))⟩])
  (.cond (.s 46) (.seq (.draw [⟨⟨none, (some 48), .inl (.ld true 4 (.s 2))⟩, (some []), [.fr 11], 0, false⟩,
     ⟨⟨none, (some 49), .inl (.mv (.s 8))⟩, (some []), [], 0, false⟩,
     ⟨⟨none, (some 50), .inl (.mv (.s 9))⟩, (some []), [], 0, false⟩,
     ⟨⟨none, (some 51), .inl (.mv (.s 10))⟩, (some []), [], 0, false⟩,
     ⟨⟨none, (some 52), .inl (.ias 1 (.s 50) (.s 51))⟩, (some []), [], 12, false⟩,
     ⟨⟨none, (some 53), .inl (.ld false 1 (.s 52))⟩, (some []), [.fr 11], 28, false⟩,
     ⟨⟨none, (some 54), .inr (.fn 87 [(.s 48), (.s 49), (.s 53)])⟩, (some []), [.fr 11], 63, false⟩,
     ⟨⟨none, (some 47), .inl (.mv (.s 54))⟩, (some []), [], 127, false⟩,
     ⟨⟨none, (some 55), .inl (.ex (.s 47) 0)⟩, (some []), [], 255, false⟩,
     ⟨⟨none, (some 56), .inl (.ex (.s 47) 1)⟩, (some []), [], 255, false⟩,
     ⟨⟨none, (some 11), .inl (.alloc 54 [(.int .i64 0), (.int .i64 0), (.int .i64 0), (.int .i64 0)])⟩, (some [.fr 11]), [], 0, false⟩,
     ⟨⟨none, none, .inl (.st 4 (.s 11) (.s 55))⟩, (some [.fr 11]), [], 1535, false⟩,
     ⟨⟨none, (some 12), .inl (.mv (.s 56))⟩, (some []), [], 4095, false⟩])
   (.seq (.draw [⟨⟨none, (some 58), .inl (.ld true 4 (.s 3))⟩, (some []), [.fr 13], 0, false⟩,
     ⟨⟨none, (some 59), .inl (.mv (.s 8))⟩, (some []), [], 0, false⟩,
     ⟨⟨none, (some 60), .inl (.mv (.s 9))⟩, (some []), [], 0, false⟩,
     ⟨⟨none, (some 61), .inl (.mv (.s 10))⟩, (some []), [], 0, false⟩,
     ⟨⟨none, (some 62), .inl (.ias 1 (.s 60) (.s 61))⟩, (some []), [], 12, false⟩,
     ⟨⟨none, (some 63), .inl (.ld false 1 (.s 62))⟩, (some []), [.fr 13], 28, false⟩,
     ⟨⟨none, (some 64), .inr (.fn 87 [(.s 58), (.s 59), (.s 63)])⟩, (some []), [.fr 13], 63, false⟩,
     ⟨⟨none, (some 57), .inl (.mv (.s 64))⟩, (some []), [], 127, false⟩,
     ⟨⟨none, (some 65), .inl (.ex (.s 57) 0)⟩, (some []), [], 255, false⟩,
     ⟨⟨none, (some 66), .inl (.ex (.s 57) 1)⟩, (some []), [], 255, false⟩,
     ⟨⟨none, (some 13), .inl (.alloc 54 [(.int .i64 0), (.int .i64 0), (.int .i64 0), (.int .i64 0)])⟩, (some [.fr 13]), [], 0, false⟩,
     ⟨⟨none, none, .inl (.st 4 (.s 13) (.s 65))⟩, (some [.fr 13]), [], 1535, false⟩,
     ⟨⟨none, (some 14), .inl (.mv (.s 66))⟩, (some []), [], 4095, false⟩])
   (.draw [⟨⟨none, (some 67), .inl (.mv (.s 7))⟩, (some []), [], 0, false⟩,
     ⟨⟨none, (some 68), .inl (.mv (.s 8))⟩, (some []), [], 0, false⟩,
     ⟨⟨none, (some 69), .inl (.mv (.s 9))⟩, (some []), [], 0, false⟩,
     ⟨⟨none, (some 70), .inl (.mv (.s 10))⟩, (some []), [], 0, false⟩,
     ⟨⟨none, (some 71), .inl (.ias 1 (.s 69) (.s 70))⟩, (some []), [], 12, false⟩,
     ⟨⟨none, (some 72), .inl (.ld false 1 (.s 71))⟩, (some []), [], 28, false⟩,
     ⟨⟨none, (some 73), .inl (.fa (.s 11) 2)⟩, (some []), [], 0, false⟩,
     ⟨⟨none, (some 74), .inl (.ld false 1 (.s 73))⟩, (some []), [], 64, false⟩,
     ⟨⟨none, (some 75), .inl (.fa (.s 13) 2)⟩, (some []), [], 0, false⟩,
     ⟨⟨none, (some 76), .inl (.ld false 1 (.s 75))⟩, (some []), [], 256, false⟩,
     ⟨⟨none, (some 77), .inl (.mm true (.s 74) (.s 76))⟩, (some []), [], 960, false⟩,
     ⟨⟨none, (some 78), .inl (.fa (.s 11) 3)⟩, (some []), [], 0, false⟩,
     ⟨⟨none, (some 79), .inl (.ld false 1 (.s 78))⟩, (some []), [], 2048, false⟩,
     ⟨⟨none, (some 80), .inl (.fa (.s 13) 3)⟩, (some []), [], 0, false⟩,
     ⟨⟨none, (some 81), .inl (.ld false 1 (.s 80))⟩, (some []), [], 8192, false⟩,
     ⟨⟨none, (some 82), .inl (.mm false (.s 79) (.s 81))⟩, (some []), [], 30720, false⟩,
     ⟨⟨none, (some 83), .inl (.bld [(.int .i64 0), (.int .i64 0), (.int .i64 0), (.int .i64 0)] [(0, 1, (.s 68)), (1, 1, (.s 72)), (2, 1, (.s 77)), (3, 1, (.s 82))])⟩, (some []), [], 65534, false⟩,
     ⟨⟨none, (some 84), .inl (.bs 54 4 1 [(.int .i64 0), (.int .i64 0), (.int .i64 0), (.int .i64 0)] [(0, (.s 83))])⟩, (some [.fr 84]), [], 131070, false⟩,
     ⟨⟨none, (some 85), .inl (.app 54 4 32 (.s 67) (.s 84))⟩, (some [.fr 85, .at 7]), [], 262143, false⟩,
     ⟨⟨none, (some 7), .inl (.mv (.s 85))⟩, (some []), [], 524287, false⟩])))
  (.skip)))
  (.region [⟨none, (some 86), .inl (.mv (.s 9))⟩,
    ⟨none, (some 87), .inl (.mv (.s 10))⟩,
    ⟨none, (some 88), .inl (.ias 1 (.s 86) (.s 87))⟩,
    ⟨none, (some 89), .inl (.ld false 1 (.s 88))⟩,
    ⟨none, (some 8), .inl (.mv (.s 89))⟩]))))
  (.region [⟨none, (some 36), .inl (.mv (.s 10))⟩,
    ⟨none, (some 37), .inl (.bin .add (.s 36) (.c (.int .i64 1)))⟩,
    ⟨none, (some 10), .inl (.mv (.s 37))⟩]))
/-- gyttja/gyttjaref01.Both -/
def k59 : Cd :=
  .seq (.region [⟨none, (some 2), .inl (.box 25 4 (.s 0))⟩,
    ⟨none, (some 3), .inl (.box 25 4 (.s 1))⟩,
    ⟨none, (some 4), .inl (.mv (.c (.slice none 0 0)))⟩,
    ⟨none, (some 5), .inl (.mv (.c (.int .i64 0)))⟩])
  (.seq (.region [⟨none, (some 15), .inl (.ld true 4 (.s 2))⟩,
    ⟨none, (some 16), .inr (.fn 45 [(.s 15)])⟩,
    ⟨none, (some 6), .inl (.mv (.s 16))⟩])
  (.seq (.seq (.region [⟨none, (some 17), .inl (.mv (.s 6))⟩,
    ⟨none, (some 18), .inl (.bin .neq (.s 17) (.c (.int .i64 0)))⟩])
  (.cond (.s 18) (.seq (.region [⟨none, (some 19), .inl (.mv (.s 6))⟩,
     ⟨none, (some 4), .inl (.mv (.c (.slice none 0 0)))⟩,
     ⟨none, (some 5), .inl (.mv (.s 19))⟩])
   (.ret))
  (.skip)))
  (.seq (.region [⟨none, (some 20), .inl (.ld true 4 (.s 3))⟩,
    ⟨none, (some 21), .inr (.fn 45 [(.s 20)])⟩,
    ⟨none, (some 6), .inl (.mv (.s 21))⟩])
  (.seq (.seq (.region [⟨none, (some 22), .inl (.mv (.s 6))⟩,
    ⟨none, (some 23), .inl (.bin .neq (.s 22) (.c (.int .i64 0)))⟩])
  (.cond (.s 23) (.seq (.region [⟨none, (some 24), .inl (.mv (.s 6))⟩,
     ⟨none, (some 4), .inl (.mv (.c (.slice none 0 0)))⟩,
     ⟨none, (some 5), .inl (.mv (.s 24))⟩])
   (.ret))
  (.skip)))
  (.seq (.seq (.region [⟨none, (some 25), .inl (.fa (.s 2) 2)⟩,
    ⟨none, (some 26), .inl (.ld false 1 (.s 25))⟩,
    ⟨none, (some 27), .inl (.fa (.s 3) 2)⟩,
    ⟨none, (some 28), .inl (.ld false 1 (.s 27))⟩,
    ⟨none, (some 29), .inl (.bin .neq (.s 26) (.s 28))⟩])
  (.cond (.s 29) (.seq (.region [⟨none, (some 4), .inl (.mv (.c (.slice none 0 0)))⟩,
     ⟨none, (some 5), .inl (.mv (.c (.int .i64 14)))⟩])
   (.ret))
  (.skip)))
  (.seq (.region [⟨none, (some 7), .inl (.mv (.c (.slice none 0 0)))⟩])
  (.seq (.region [⟨none, (some 8), .inl (.mv (.c (.int .i64 (-1))))⟩])
  (.seq (.region [⟨none, (some 30), .inl (.ld true 4 (.s 2))⟩,
    ⟨none, (some 31), .inr (.fn 86 [(.s 30)])⟩,
    ⟨none, (some 9), .inl (.mv (.s 31))⟩])
  (.seq (.seq (.region [⟨none, (some 10), .inl (.mv (.c (.int .i64 0)))⟩])
  (.block 0 (.loop k59l0)))
  (.seq (.region [⟨none, (some 90), .inl (.mv (.s 7))⟩,
    ⟨none, (some 4), .inl (.mv (.s 90))⟩,
    ⟨none, (some 5), .inl (.mv (.c (.int .i64 0)))⟩])
  (.ret)))))))))))
/-- gyttja/sheet.Apart$1 -/
def k60 : Cd :=
  .seq (.region [⟨none, (some 1), .inl (.box 54 4 (.s 0))⟩,
    ⟨none, (some 2), .inl (.mv (.c (.bool false)))⟩])
  (.seq (.region [⟨none, (some 3), .inl (.fa (.s 1) 2)⟩,
    ⟨none, (some 4), .inl (.ld false 1 (.s 3))⟩,
    ⟨none, (some 5), .inl (.fa (.s 1) 3)⟩,
    ⟨none, (some 6), .inl (.ld false 1 (.s 5))⟩,
    ⟨none, (some 7), .inl (.bin .gtr (.s 4) (.s 6))⟩,
    ⟨none, (some 2), .inl (.mv (.s 7))⟩])
  (.ret))
/-- gyttja/sheet.rowsBelow -/
def k61 : Cd :=
  .seq (.region [⟨none, (some 1), .inl (.box 25 4 (.s 0))⟩,
    ⟨none, (some 2), .inl (.mv (.c .nilFunc))⟩])
  (.seq (.region [⟨none, (some 3), .inl (.mkf (.func 88) [] [(.s 1)])⟩,
    ⟨none, (some 2), .inl (.mv (.s 3))⟩])
  (.ret))
def k62l0 : Cd :=
  .seq (.region [⟨none, (some 20), .inl (.bin .lss (.s 19) (.s 18))⟩])
  (.seq (.cond (.s 20) (.skip)
  (.exit 0))
  (.seq (.block 1 (.seq (.region [⟨none, (some 21), .inl (.ias 3 (.s 17) (.s 19))⟩,
    ⟨none, (some 22), .inl (.ld true 3 (.s 21))⟩,
    ⟨none, (some 8), .inl (.alloc 71 [(.int .i64 0), (.int .i64 0), (.int .i64 0)])⟩,
    ⟨none, none, .inl (.st 3 (.s 8) (.s 22))⟩])
  (.seq (.region [⟨none, (some 23), .inl (.mv (.s 4))⟩,
    ⟨none, (some 24), .inl (.ld true 3 (.s 8))⟩,
    ⟨none, (some 25), .inr (.fn 90 [(.s 23), (.s 24)])⟩,
    ⟨none, (some 9), .inl (.alloc 104 [(.bool false), (.int .i64 0), (.int .i64 0), (.slice none 0 0), (.int .i64 0), (.bool false), (.bool false)])⟩,
    ⟨none, none, .inl (.st 7 (.s 9) (.s 25))⟩])
  (.seq (.seq (.region [⟨none, (some 26), .inl (.fa (.s 9) 0)⟩,
    ⟨none, (some 27), .inl (.ld false 1 (.s 26))⟩,
    ⟨none, (some 28), .inl (.not (.s 27))⟩])
  (.cond (.s 28) (.seq (.region [⟨none, (some 2), .inl (.mv (.c (.slice none 0 0)))⟩,
     ⟨none, (some 3), .inl (.mv (.c (.int .i64 10)))⟩])
   (.ret))
  (.skip)))
  (.seq (.region [⟨none, (some 29), .inl (.mv (.s 6))⟩,
    ⟨none, (some 30), .inl (.fa (.s 9) 2)⟩,
    ⟨none, (some 31), .inl (.ld false 1 (.s 30))⟩,
    ⟨none, (some 32), .inl (.bin .add (.s 29) (.s 31))⟩,
    ⟨none, (some 6), .inl (.mv (.s 32))⟩])
  (.region [⟨none, (some 33), .inl (.mv (.s 5))⟩,
    ⟨none, (some 34), .inl (.ld true 7 (.s 9))⟩,
    ⟨none, (some 35), .inl (.bs 104 7 1 [(.bool false), (.int .i64 0), (.int .i64 0), (.slice none 0 0), (.int .i64 0), (.bool false), (.bool false)] [(0, (.s 34))])⟩,
    ⟨none, (some 36), .inl (.app 104 7 64 (.s 33) (.s 35))⟩,
    ⟨none, (some 5), .inl (.mv (.s 36))⟩]))))))
  (.region [⟨none, (some 37), .inl (.bin .add (.s 19) (.c (.int .i64 1)))⟩,
    ⟨none, (some 19), .inl (.mv (.s 37))⟩])))
/-- gyttja/sheet.natures -/
def k62 : Cd :=
  .seq (.region [⟨none, (some 2), .inl (.mv (.c (.slice none 0 0)))⟩,
    ⟨none, (some 3), .inl (.mv (.c (.int .i64 0)))⟩])
  (.seq (.seq (.region [⟨none, (some 10), .inl (.mv (.s 0))⟩,
    ⟨none, (some 11), .inl (.len (.s 10))⟩,
    ⟨none, (some 12), .inl (.bin .gtr (.s 11) (.c (.int .i64 400)))⟩])
  (.cond (.s 12) (.seq (.region [⟨none, (some 2), .inl (.mv (.c (.slice none 0 0)))⟩,
     ⟨none, (some 3), .inl (.mv (.c (.int .i64 2)))⟩])
   (.ret))
  (.skip)))
  (.seq (.region [⟨none, (some 13), .inr (.fn 89 [])⟩,
    ⟨none, (some 4), .inl (.mv (.s 13))⟩])
  (.seq (.region [⟨none, (some 14), .inl (.mv (.s 0))⟩,
    ⟨none, (some 15), .inl (.len (.s 14))⟩,
    ⟨none, (some 16), .inl (.mks 104 7 64 [(.bool false), (.int .i64 0), (.int .i64 0), (.slice none 0 0), (.int .i64 0), (.bool false), (.bool false)] (.c (.int .i64 0)) (.s 15))⟩,
    ⟨none, (some 5), .inl (.mv (.s 16))⟩])
  (.seq (.region [⟨none, (some 6), .inl (.mv (.c (.int .i64 0)))⟩])
  (.seq (.seq (.region [⟨none, (some 17), .inl (.mv (.s 0))⟩,
    ⟨none, (some 18), .inl (.len (.s 17))⟩,
    ⟨none, (some 19), .inl (.mv (.c (.int .i64 0)))⟩])
  (.block 0 (.loop k62l0)))
  (.seq (.seq (.region [⟨none, (some 38), .inl (.mv (.s 6))⟩,
    ⟨none, (some 39), .inl (.bin .gtr (.s 38) (.c (.int .i64 100000)))⟩])
  (.cond (.s 39) (.seq (.region [⟨none, (some 2), .inl (.mv (.c (.slice none 0 0)))⟩,
     ⟨none, (some 3), .inl (.mv (.c (.int .i64 2)))⟩])
   (.ret))
  (.skip)))
  (.seq (.region [⟨none, (some 40), .inl (.mv (.s 5))⟩,
    ⟨none, (some 2), .inl (.mv (.s 40))⟩,
    ⟨none, (some 3), .inl (.mv (.c (.int .i64 0)))⟩])
  (.ret))))))))
def k63l0 : Cd :=
  .seq (.region [⟨none, (some 7), .inl (.mv (.s 16))⟩])
  (.region [⟨none, (some 8), .inl (.alloc 71 [(.int .i64 0), (.int .i64 0), (.int .i64 0)])⟩,
    ⟨none, none, .inl (.st 3 (.s 8) (.s 17))⟩])
def k63l1 : Cd :=
  .block 1 (.seq (.seq (.region [⟨none, (some 18), .inl (.fa (.s 8) 0)⟩,
    ⟨none, (some 19), .inl (.ld false 1 (.s 18))⟩,
    ⟨none, (some 20), .inl (.bin .neq (.s 19) (.c (.int .i64 1)))⟩])
  (.cond (.s 20) (.seq (.region [⟨none, (some 21), .inl (.ld false 1 (.s 3))⟩,
     ⟨none, (some 22), .inl (.ld true 3 (.s 8))⟩,
     ⟨none, (some 23), .inr (.fn 90 [(.s 21), (.s 22)])⟩,
     ⟨none, (some 9), .inl (.alloc 104 [(.bool false), (.int .i64 0), (.int .i64 0), (.slice none 0 0), (.int .i64 0), (.bool false), (.bool false)])⟩,
     ⟨none, none, .inl (.st 7 (.s 9) (.s 23))⟩])
   (.seq (.region [⟨none, (some 24), .inl (.ld false 1 (.s 5))⟩,
     ⟨none, (some 25), .inl (.fa (.s 9) 1)⟩,
     ⟨none, (some 26), .inl (.ld false 1 (.s 25))⟩,
     ⟨none, (some 27), .inl (.bin .add (.s 24) (.s 26))⟩,
     ⟨none, none, .inl (.st 1 (.s 5) (.s 27))⟩])
   (.seq (.region [⟨none, (some 28), .inl (.ld false 1 (.s 6))⟩,
     ⟨none, (some 29), .inl (.fa (.s 9) 2)⟩,
     ⟨none, (some 30), .inl (.ld false 1 (.s 29))⟩,
     ⟨none, (some 31), .inl (.bin .add (.s 28) (.s 30))⟩,
     ⟨none, none, .inl (.st 1 (.s 6) (.s 31))⟩])
   (.exit 1))))
  (.skip)))
  (.seq (.seq (.region [⟨none, (some 32), .inl (.mv (.s 7))⟩,
    ⟨none, (some 33), .inl (.bin .neq (.s 32) (.c (.int .i64 (-1))))⟩])
  (.cond (.s 33) (.draw [⟨⟨none, (some 34), .inl (.ld false 1 (.s 4))⟩, (some []), [.fr 44], 0, false⟩,
     ⟨⟨none, (some 35), .inl (.mv (.s 7))⟩, (some []), [], 0, false⟩,
     ⟨⟨none, (some 36), .inl (.fa (.s 1) 2)⟩, (some []), [], 0, false⟩,
     ⟨⟨none, (some 37), .inl (.ld false 1 (.s 36))⟩, (some []), [], 4, false⟩,
     ⟨⟨none, (some 38), .inl (.fa (.s 8) 1)⟩, (some []), [], 0, false⟩,
     ⟨⟨none, (some 39), .inl (.ld false 1 (.s 38))⟩, (some []), [], 16, false⟩,
     ⟨⟨none, (some 40), .inr (.fn 37 [(.s 37), (.s 39)])⟩, (some []), [], 60, false⟩,
     ⟨⟨none, (some 41), .inl (.ld false 1 (.s 5))⟩, (some []), [], 0, false⟩,
     ⟨⟨none, (some 42), .inl (.ld false 1 (.s 6))⟩, (some []), [], 0, false⟩,
     ⟨⟨none, (some 43), .inl (.bld [(.int .i64 0), (.int .i64 0), (.int .i64 0), (.int .i64 0)] [(0, 1, (.s 35)), (1, 1, (.s 40)), (2, 1, (.s 41)), (3, 1, (.s 42))])⟩, (some []), [], 510, false⟩,
     ⟨⟨none, (some 44), .inl (.bs 54 4 1 [(.int .i64 0), (.int .i64 0), (.int .i64 0), (.int .i64 0)] [(0, (.s 43))])⟩, (some [.fr 44]), [], 1022, false⟩,
     ⟨⟨none, (some 45), .inl (.app 54 4 32 (.s 34) (.s 44))⟩, (some [.fr 45, .at 34]), [], 2047, false⟩,
     ⟨⟨none, none, .inl (.st 1 (.s 4) (.s 45))⟩, (some [.at 4]), [], 4095, false⟩])
  (.skip)))
  (.region [⟨none, none, .inl (.st 1 (.s 5) (.c (.int .i64 0)))⟩,
    ⟨none, none, .inl (.st 1 (.s 6) (.c (.int .i64 0)))⟩])))
/-- gyttja/sheet.Spans -/
def k63 : Cd :=
  .seq (.region [⟨none, (some 1), .inl (.box 25 4 (.s 0))⟩,
    ⟨none, (some 2), .inl (.mv (.c (.slice none 0 0)))⟩])
  (.seq (.seq (.region [⟨none, (some 10), .inl (.ld true 4 (.s 1))⟩,
    ⟨none, (some 11), .inr (.fn 40 [(.s 10)])⟩,
    ⟨none, (some 12), .inl (.bin .neq (.s 11) (.c (.int .i64 0)))⟩])
  (.cond (.s 12) (.seq (.region [⟨none, (some 2), .inl (.mv (.c (.slice none 0 0)))⟩])
   (.ret))
  (.skip)))
  (.seq (.region [⟨none, (some 13), .inr (.fn 89 [])⟩,
    ⟨none, (some 3), .inl (.alloc 127 [(.map none)])⟩,
    ⟨none, none, .inl (.st 1 (.s 3) (.s 13))⟩])
  (.seq (.region [⟨none, (some 4), .inl (.alloc 43 [(.slice none 0 0)])⟩])
  (.seq (.region [⟨none, (some 5), .inl (.alloc 3 [(.int .i64 0)])⟩,
    ⟨none, (some 6), .inl (.alloc 3 [(.int .i64 0)])⟩,
    ⟨none, none, .inl (.st 1 (.s 5) (.c (.int .i64 0)))⟩,
    ⟨none, none, .inl (.st 1 (.s 6) (.c (.int .i64 0)))⟩])
  (.seq (.seq (.region [⟨none, (some 14), .inl (.ld true 4 (.s 1))⟩,
    ⟨none, (some 15), .inr (.fn 61 [(.s 14)])⟩])
  (.block 0 (.rangeF (.s 15) [16, 17] k63l0 k63l1)))
  (.seq (.region [⟨none, (some 46), .inl (.ld false 1 (.s 4))⟩,
    ⟨none, (some 2), .inl (.mv (.s 46))⟩])
  (.ret)))))))
def k64l0 : Cd :=
  .seq (.region [⟨none, (some 13), .inl (.bin .lss (.s 12) (.s 11))⟩])
  (.seq (.cond (.s 13) (.skip)
  (.exit 0))
  (.seq (.block 1 (.seq (.region [⟨none, (some 14), .inl (.ias 4 (.s 10) (.s 12))⟩,
    ⟨none, (some 15), .inl (.ld true 4 (.s 14))⟩,
    ⟨none, (some 9), .inl (.alloc 54 [(.int .i64 0), (.int .i64 0), (.int .i64 0), (.int .i64 0)])⟩,
    ⟨none, none, .inl (.st 4 (.s 9) (.s 15))⟩])
  (.seq (.region [⟨none, (some 16), .inl (.mv (.s 1))⟩,
    ⟨none, (some 17), .inl (.fa (.s 9) 0)⟩,
    ⟨none, (some 18), .inl (.ld false 1 (.s 17))⟩,
    ⟨none, (some 19), .inl (.bin .leq (.s 16) (.s 18))⟩,
    ⟨none, (some 20), .inl (.mv (.s 19))⟩,
    ⟨(some (20, true)), (some 21), .inl (.fa (.s 9) 1)⟩,
    ⟨(some (20, true)), (some 22), .inl (.ld false 1 (.s 21))⟩,
    ⟨(some (20, true)), (some 23), .inl (.mv (.s 2))⟩,
    ⟨(some (20, true)), (some 24), .inl (.bin .leq (.s 22) (.s 23))⟩,
    ⟨none, (some 25), .inl (.pick (.s 20) (.s 24) (.c (.bool false)))⟩])
  (.cond (.s 25) (.seq (.region [⟨none, (some 26), .inl (.mv (.s 6))⟩,
     ⟨none, (some 27), .inl (.fa (.s 9) 2)⟩,
     ⟨none, (some 28), .inl (.ld false 1 (.s 27))⟩,
     ⟨none, (some 29), .inl (.bin .add (.s 26) (.s 28))⟩,
     ⟨none, (some 6), .inl (.mv (.s 29))⟩])
   (.region [⟨none, (some 30), .inl (.mv (.s 7))⟩,
     ⟨none, (some 31), .inl (.fa (.s 9) 3)⟩,
     ⟨none, (some 32), .inl (.ld false 1 (.s 31))⟩,
     ⟨none, (some 33), .inl (.bin .add (.s 30) (.s 32))⟩,
     ⟨none, (some 7), .inl (.mv (.s 33))⟩]))
  (.skip)))))
  (.region [⟨none, (some 34), .inl (.bin .add (.s 12) (.c (.int .i64 1)))⟩,
    ⟨none, (some 12), .inl (.mv (.s 34))⟩])))
/-- gyttja/sheet.yearsFrom -/
def k64 : Cd :=
  .seq (.region [⟨none, (some 6), .inl (.mv (.c (.int .i64 0)))⟩,
    ⟨none, (some 7), .inl (.mv (.c (.int .i64 0)))⟩])
  (.seq (.seq (.region [⟨none, (some 10), .inl (.mv (.s 0))⟩,
    ⟨none, (some 11), .inl (.len (.s 10))⟩,
    ⟨none, (some 12), .inl (.mv (.c (.int .i64 0)))⟩])
  (.block 0 (.loop k64l0)))
  (.seq (.region [⟨none, (some 35), .inl (.mv (.s 6))⟩,
    ⟨none, (some 36), .inl (.mv (.s 7))⟩,
    ⟨none, (some 6), .inl (.mv (.s 35))⟩,
    ⟨none, (some 7), .inl (.mv (.s 36))⟩])
  (.ret)))
/-- gyttja/pick.Index -/
def k65 : Cd :=
  .seq (.region [⟨none, (some 6), .inl (.mv (.c (.int .i64 0)))⟩])
  (.seq (.seq (.region [⟨none, (some 8), .inl (.mv (.s 0))⟩,
    ⟨none, (some 9), .inl (.len (.s 8))⟩,
    ⟨none, (some 10), .inl (.bin .eql (.s 9) (.c (.int .i64 0)))⟩,
    ⟨none, (some 11), .inl (.mv (.s 10))⟩,
    ⟨(some (11, false)), (some 12), .inl (.mv (.s 2))⟩,
    ⟨(some (11, false)), (some 13), .inl (.bin .lss (.s 12) (.c (.int .i64 1)))⟩,
    ⟨none, (some 14), .inl (.pick (.s 11) (.c (.bool true)) (.s 13))⟩])
  (.cond (.s 14) (.seq (.region [⟨none, (some 6), .inl (.mv (.c (.int .i64 0)))⟩])
   (.ret))
  (.skip)))
  (.seq (.region [⟨none, (some 15), .inl (.mv (.s 0))⟩,
    ⟨none, (some 16), .inl (.mv (.s 1))⟩,
    ⟨none, (some 17), .inl (.mv (.s 0))⟩,
    ⟨none, (some 18), .inl (.len (.s 17))⟩,
    ⟨none, (some 19), .inl (.bin .rem (.s 16) (.s 18))⟩,
    ⟨none, (some 20), .inl (.ias 1 (.s 15) (.s 19))⟩,
    ⟨none, (some 21), .inl (.ld false 1 (.s 20))⟩,
    ⟨none, (some 22), .inl (.mv (.s 2))⟩,
    ⟨none, (some 23), .inl (.bin .rem (.s 21) (.s 22))⟩,
    ⟨none, (some 7), .inl (.mv (.s 23))⟩])
  (.seq (.seq (.region [⟨none, (some 24), .inl (.mv (.s 7))⟩,
    ⟨none, (some 25), .inl (.bin .lss (.s 24) (.c (.int .i64 0)))⟩])
  (.cond (.s 25) (.region [⟨none, (some 26), .inl (.mv (.s 7))⟩,
     ⟨none, (some 27), .inl (.mv (.s 2))⟩,
     ⟨none, (some 28), .inl (.bin .add (.s 26) (.s 27))⟩,
     ⟨none, (some 7), .inl (.mv (.s 28))⟩])
  (.skip)))
  (.seq (.region [⟨none, (some 29), .inl (.mv (.s 7))⟩,
    ⟨none, (some 6), .inl (.mv (.s 29))⟩])
  (.ret)))))
/-- gyttja/sheet.yearsOf -/
def k66 : Cd :=
  .seq (.region [⟨none, (some 2), .inl (.box 104 7 (.s 0))⟩,
    ⟨none, (some 4), .inl (.mv (.c (.slice none 0 0)))⟩])
  (.seq (.seq (.region [⟨none, (some 5), .inl (.fa (.s 2) 5)⟩,
    ⟨none, (some 6), .inl (.ld false 1 (.s 5))⟩])
  (.cond (.s 6) (.seq (.region [⟨none, (some 7), .inl (.mv (.s 1))⟩,
     ⟨none, (some 8), .inl (.mks 3 1 8 [(.int .i64 0)] (.s 7) (.s 7))⟩,
     ⟨none, (some 4), .inl (.mv (.s 8))⟩])
   (.ret))
  (.skip)))
  (.seq (.seq (.region [⟨none, (some 9), .inl (.mv (.s 1))⟩,
    ⟨none, (some 10), .inl (.fa (.s 2) 3)⟩,
    ⟨none, (some 11), .inl (.ld false 1 (.s 10))⟩,
    ⟨none, (some 12), .inl (.len (.s 11))⟩,
    ⟨none, (some 13), .inl (.bin .lss (.s 9) (.s 12))⟩])
  (.cond (.s 13) (.seq (.region [⟨none, (some 14), .inl (.fa (.s 2) 3)⟩,
     ⟨none, (some 15), .inl (.ld false 1 (.s 14))⟩,
     ⟨none, (some 16), .inr (.fn 68 [(.s 15)])⟩,
     ⟨none, (some 17), .inl (.bs 3 1 1 [(.int .i64 0)] [(0, (.s 16))])⟩,
     ⟨none, (some 4), .inl (.mv (.s 17))⟩])
   (.ret))
  (.skip)))
  (.seq (.region [⟨none, (some 18), .inl (.fa (.s 2) 3)⟩,
    ⟨none, (some 19), .inl (.ld false 1 (.s 18))⟩,
    ⟨none, (some 4), .inl (.mv (.s 19))⟩])
  (.ret))))
/-- gyttja/sheet.layered -/
def k67 : Cd :=
  .seq (.region [⟨none, (some 2), .inl (.mv (.c (.slice none 0 0)))⟩,
    ⟨none, (some 3), .inl (.mv (.c (.int .i64 0)))⟩])
  (.seq (.region [⟨none, (some 7), .inl (.mv (.s 0))⟩,
    ⟨none, (some 8), .inr (.fn 62 [(.s 7)])⟩,
    ⟨none, (some 6), .inl (.mv (.s 8))⟩,
    ⟨none, (some 9), .inl (.ex (.s 6) 0)⟩,
    ⟨none, (some 10), .inl (.ex (.s 6) 1)⟩,
    ⟨none, (some 4), .inl (.mv (.s 9))⟩,
    ⟨none, (some 5), .inl (.mv (.s 10))⟩])
  (.seq (.seq (.region [⟨none, (some 11), .inl (.mv (.s 5))⟩,
    ⟨none, (some 12), .inl (.bin .neq (.s 11) (.c (.int .i64 0)))⟩])
  (.cond (.s 12) (.seq (.region [⟨none, (some 13), .inl (.mv (.s 5))⟩,
     ⟨none, (some 2), .inl (.mv (.c (.slice none 0 0)))⟩,
     ⟨none, (some 3), .inl (.mv (.s 13))⟩])
   (.ret))
  (.skip)))
  (.seq (.seq (.region [⟨none, (some 14), .inl (.mv (.s 4))⟩,
    ⟨none, (some 15), .inr (.fn 91 [(.s 14), (.f 92)])⟩])
  (.cond (.s 15) (.seq (.region [⟨none, (some 2), .inl (.mv (.c (.slice none 0 0)))⟩,
     ⟨none, (some 3), .inl (.mv (.c (.int .i64 13)))⟩])
   (.ret))
  (.skip)))
  (.seq (.region [⟨none, (some 16), .inl (.mv (.s 4))⟩,
    ⟨none, (some 2), .inl (.mv (.s 16))⟩,
    ⟨none, (some 3), .inl (.mv (.c (.int .i64 0)))⟩])
  (.ret)))))
def k68l0 : Cd :=
  .seq (.region [⟨none, (some 9), .inl (.bin .lss (.s 8) (.s 7))⟩])
  (.seq (.cond (.s 9) (.skip)
  (.exit 0))
  (.seq (.block 1 (.seq (.region [⟨none, (some 10), .inl (.ias 1 (.s 6) (.s 8))⟩,
    ⟨none, (some 11), .inl (.ld false 1 (.s 10))⟩,
    ⟨none, (some 5), .inl (.mv (.s 11))⟩])
  (.region [⟨none, (some 12), .inl (.mv (.s 3))⟩,
    ⟨none, (some 13), .inl (.mv (.s 5))⟩,
    ⟨none, (some 14), .inl (.bin .add (.s 12) (.s 13))⟩,
    ⟨none, (some 3), .inl (.mv (.s 14))⟩])))
  (.region [⟨none, (some 15), .inl (.bin .add (.s 8) (.c (.int .i64 1)))⟩,
    ⟨none, (some 8), .inl (.mv (.s 15))⟩])))
/-- gyttja/sheet.sum -/
def k68 : Cd :=
  .seq (.region [⟨none, (some 2), .inl (.mv (.c (.int .i64 0)))⟩])
  (.seq (.region [⟨none, (some 3), .inl (.mv (.c (.int .i64 0)))⟩])
  (.seq (.seq (.region [⟨none, (some 6), .inl (.mv (.s 0))⟩,
    ⟨none, (some 7), .inl (.len (.s 6))⟩,
    ⟨none, (some 8), .inl (.mv (.c (.int .i64 0)))⟩])
  (.block 0 (.loop k68l0)))
  (.seq (.region [⟨none, (some 16), .inl (.mv (.s 3))⟩,
    ⟨none, (some 2), .inl (.mv (.s 16))⟩])
  (.ret))))
/-- gyttja/sheet.within -/
def k69 : Cd :=
  .seq (.region [⟨none, (some 6), .inl (.mv (.c (.bool false)))⟩])
  (.seq (.region [⟨none, (some 7), .inl (.mv (.s 1))⟩,
    ⟨none, (some 8), .inl (.mv (.s 0))⟩,
    ⟨none, (some 9), .inl (.bin .leq (.s 7) (.s 8))⟩,
    ⟨none, (some 10), .inl (.mv (.s 9))⟩,
    ⟨(some (10, true)), (some 11), .inl (.mv (.s 0))⟩,
    ⟨(some (10, true)), (some 12), .inl (.mv (.s 2))⟩,
    ⟨(some (10, true)), (some 13), .inl (.bin .leq (.s 11) (.s 12))⟩,
    ⟨none, (some 14), .inl (.pick (.s 10) (.s 13) (.c (.bool false)))⟩,
    ⟨none, (some 6), .inl (.mv (.s 14))⟩])
  (.ret))
/-- strings.Lines -/
def k70 : Cd :=
  .seq (.region [⟨none, (some 1), .inl (.box 9 1 (.s 0))⟩,
    ⟨none, (some 2), .inl (.mv (.c .nilFunc))⟩])
  (.seq (.region [⟨none, (some 3), .inl (.mkf (.func 93) [] [(.s 1)])⟩,
    ⟨none, (some 2), .inl (.mv (.s 3))⟩])
  (.ret))
/-- gyttja/sheet.wordsOf -/
def k71 : Cd :=
  .seq (.region [⟨none, (some 2), .inl (.mv (.c (.slice none 0 0)))⟩])
  (.seq (.region [⟨none, (some 3), .inl (.mv (.s 0))⟩,
    ⟨none, (some 4), .inr (.fn 95 [(.s 3), (.f 96)])⟩,
    ⟨none, (some 2), .inl (.mv (.s 4))⟩])
  (.ret))
/-- strings.TrimSuffix -/
def k72 : Cd :=
  .seq (.region [⟨none, (some 4), .inl (.mv (.c (.string ⟨#[]⟩)))⟩])
  (.seq (.region [⟨none, (some 5), .inl (.mv (.s 0))⟩,
    ⟨none, (some 6), .inl (.mv (.s 1))⟩,
    ⟨none, (some 7), .inr (.fn 97 [(.s 5), (.s 6)])⟩,
    ⟨none, (some 4), .inl (.mv (.s 7))⟩])
  (.ret))
def k73l0 : Cd :=
  .seq (.region [⟨none, (some 10), .inl (.bin .lss (.s 9) (.c (.int .i64 7)))⟩])
  (.seq (.cond (.s 10) (.skip)
  (.exit 0))
  (.seq (.block 1 (.seq (.region [⟨none, (some 11), .inl (.mv (.s 9))⟩,
    ⟨none, (some 12), .inl (.ixa true 2 7 (.s 8) (.s 9))⟩,
    ⟨none, (some 6), .inl (.alloc 86 [(.string ⟨#[]⟩), (.int .i64 0)])⟩,
    ⟨none, (some 5), .inl (.mv (.s 11))⟩,
    ⟨none, none, .inl (.st 2 (.s 6) (.s 12))⟩])
  (.seq (.seq (.draw [⟨⟨none, (some 13), .inl (.fa (.s 6) 0)⟩, (some []), [], 0, false⟩,
    ⟨⟨none, (some 14), .inl (.ld false 1 (.s 13))⟩, (some []), [], 1, false⟩,
    ⟨⟨none, (some 15), .inl (.mv (.s 1))⟩, (some []), [], 0, false⟩,
    ⟨⟨none, (some 16), .inl (.ias 1 (.s 15) (.c (.int .i64 0)))⟩, (some []), [], 4, false⟩,
    ⟨⟨none, (some 17), .inl (.ld false 1 (.s 16))⟩, (some []), [], 12, false⟩,
    ⟨⟨none, (some 18), .inl (.bin .neq (.s 14) (.s 17))⟩, (some []), [], 31, false⟩,
    ⟨⟨none, (some 19), .inl (.mv (.s 18))⟩, (some []), [], 63, false⟩,
    ⟨⟨(some (19, false)), (some 20), .inl (.mv (.s 1))⟩, (some []), [], 127, false⟩,
    ⟨⟨(some (19, false)), (some 21), .inl (.len (.s 20))⟩, (some []), [], 255, false⟩,
    ⟨⟨(some (19, false)), (some 22), .inl (.fa (.s 6) 1)⟩, (some []), [], 127, false⟩,
    ⟨⟨(some (19, false)), (some 23), .inl (.ld false 1 (.s 22))⟩, (some []), [], 639, false⟩,
    ⟨⟨(some (19, false)), (some 24), .inl (.bin .add (.s 23) (.c (.int .i64 1)))⟩, (some []), [], 1663, false⟩,
    ⟨⟨(some (19, false)), (some 25), .inl (.bin .neq (.s 21) (.s 24))⟩, (some []), [], 4095, false⟩,
    ⟨⟨none, (some 26), .inl (.pick (.s 19) (.c (.bool true)) (.s 25))⟩, (some []), [], 8191, false⟩])
  (.cond (.s 26) (.exit 1)
  (.skip)))
  (.seq (.region [⟨none, (some 27), .inl (.mv (.s 5))⟩,
    ⟨none, (some 28), .inl (.mv (.s 0))⟩,
    ⟨none, (some 29), .inl (.mv (.s 1))⟩,
    ⟨none, (some 30), .inl (.ias 1 (.s 29) (.c (.int .i64 1)))⟩,
    ⟨none, (some 31), .inl (.ld false 1 (.s 30))⟩,
    ⟨none, (some 32), .inr (.fn 98 [(.s 28), (.s 31)])⟩,
    ⟨none, (some 33), .inl (.bld [(.int .i64 0), (.int .i64 0), (.int .i64 0)] [(0, 1, (.s 27)), (1, 1, (.s 32))])⟩,
    ⟨none, (some 7), .inl (.alloc 71 [(.int .i64 0), (.int .i64 0), (.int .i64 0)])⟩,
    ⟨none, none, .inl (.st 3 (.s 7) (.s 33))⟩])
  (.seq (.seq (.region [⟨none, (some 34), .inl (.fa (.s 6) 1)⟩,
    ⟨none, (some 35), .inl (.ld false 1 (.s 34))⟩,
    ⟨none, (some 36), .inl (.bin .eql (.s 35) (.c (.int .i64 2)))⟩])
  (.cond (.s 36) (.region [⟨none, (some 37), .inl (.mv (.s 0))⟩,
     ⟨none, (some 38), .inl (.mv (.s 1))⟩,
     ⟨none, (some 39), .inl (.ias 1 (.s 38) (.c (.int .i64 2)))⟩,
     ⟨none, (some 40), .inl (.ld false 1 (.s 39))⟩,
     ⟨none, (some 41), .inr (.fn 98 [(.s 37), (.s 40)])⟩,
     ⟨none, (some 42), .inl (.fa (.s 7) 2)⟩,
     ⟨none, none, .inl (.st 1 (.s 42) (.s 41))⟩])
  (.skip)))
  (.seq (.region [⟨none, (some 43), .inl (.ld true 3 (.s 7))⟩,
    ⟨none, none, .inl (.st 3 (.s 4) (.s 43))⟩])
  (.ret)))))))
  (.region [⟨none, (some 44), .inl (.bin .add (.s 9) (.c (.int .i64 1)))⟩,
    ⟨none, (some 9), .inl (.mv (.s 44))⟩])))
/-- gyttja/sheet.parseRow -/
def k73 : Cd :=
  .seq (.region [⟨none, (some 4), .inl (.alloc 71 [(.int .i64 0), (.int .i64 0), (.int .i64 0)])⟩])
  (.seq (.seq (.region [⟨none, (some 8), .inl (.ld true 14 (.g 0))⟩,
    ⟨none, (some 9), .inl (.mv (.c (.int .i64 0)))⟩])
  (.block 0 (.loop k73l0)))
  (.region [⟨none, (some 45), .inl (.mv (.s 0))⟩,
    ⟨none, (some 46), .inl (.mki 64 (.s 45))⟩,
    ⟨none, none, .inr (.pan (.s 46))⟩]))
/-- gyttja/sheet.parseHead -/
def k74 : Cd :=
  .seq (.region [⟨none, (some 4), .inl (.alloc 25 [(.int .i64 0), (.int .i64 0), (.int .i64 0), (.slice none 0 0)])⟩])
  (.seq (.seq (.region [⟨none, (some 5), .inl (.mv (.s 1))⟩,
    ⟨none, (some 6), .inl (.len (.s 5))⟩,
    ⟨none, (some 7), .inl (.bin .neq (.s 6) (.c (.int .i64 6)))⟩,
    ⟨none, (some 8), .inl (.mv (.s 7))⟩,
    ⟨(some (8, false)), (some 9), .inl (.mv (.s 1))⟩,
    ⟨(some (8, false)), (some 10), .inl (.ias 1 (.s 9) (.c (.int .i64 0)))⟩,
    ⟨(some (8, false)), (some 11), .inl (.ld false 1 (.s 10))⟩,
    ⟨(some (8, false)), (some 12), .inl (.bin .neq (.s 11) (.c (.string ⟨#[115, 104, 101, 101, 116]⟩)))⟩,
    ⟨none, (some 13), .inl (.pick (.s 8) (.c (.bool true)) (.s 12))⟩,
    ⟨none, (some 14), .inl (.mv (.s 13))⟩,
    ⟨(some (14, false)), (some 15), .inl (.mv (.s 1))⟩,
    ⟨(some (14, false)), (some 16), .inl (.ias 1 (.s 15) (.c (.int .i64 2)))⟩,
    ⟨(some (14, false)), (some 17), .inl (.ld false 1 (.s 16))⟩,
    ⟨(some (14, false)), (some 18), .inl (.bin .neq (.s 17) (.c (.string ⟨#[114, 101, 97, 100, 101, 114]⟩)))⟩,
    ⟨none, (some 19), .inl (.pick (.s 14) (.c (.bool true)) (.s 18))⟩,
    ⟨none, (some 20), .inl (.mv (.s 19))⟩,
    ⟨(some (20, false)), (some 21), .inl (.mv (.s 1))⟩,
    ⟨(some (20, false)), (some 22), .inl (.ias 1 (.s 21) (.c (.int .i64 4)))⟩,
    ⟨(some (20, false)), (some 23), .inl (.ld false 1 (.s 22))⟩,
    ⟨(some (20, false)), (some 24), .inl (.bin .neq (.s 23) (.c (.string ⟨#[99, 111, 114, 101]⟩)))⟩,
    ⟨none, (some 25), .inl (.pick (.s 20) (.c (.bool true)) (.s 24))⟩])
  (.cond (.s 25) (.region [⟨none, (some 26), .inl (.mv (.s 0))⟩,
     ⟨none, (some 27), .inl (.mki 64 (.s 26))⟩,
     ⟨none, none, .inr (.pan (.s 27))⟩])
  (.skip)))
  (.seq (.draw [⟨⟨none, (some 28), .inl (.mv (.s 0))⟩, (some []), [], 0, false⟩,
    ⟨⟨none, (some 29), .inl (.mv (.s 1))⟩, (some []), [], 0, false⟩,
    ⟨⟨none, (some 30), .inl (.ias 1 (.s 29) (.c (.int .i64 1)))⟩, (some []), [], 2, false⟩,
    ⟨⟨none, (some 31), .inl (.ld false 1 (.s 30))⟩, (some []), [], 6, false⟩,
    ⟨⟨none, (some 32), .inr (.fn 98 [(.s 28), (.s 31)])⟩, (some []), [], 15, false⟩,
    ⟨⟨none, (some 33), .inl (.mv (.s 0))⟩, (some []), [], 0, false⟩,
    ⟨⟨none, (some 34), .inl (.mv (.s 1))⟩, (some []), [], 0, false⟩,
    ⟨⟨none, (some 35), .inl (.ias 1 (.s 34) (.c (.int .i64 3)))⟩, (some []), [], 64, false⟩,
    ⟨⟨none, (some 36), .inl (.ld false 1 (.s 35))⟩, (some []), [], 192, false⟩,
    ⟨⟨none, (some 37), .inr (.fn 98 [(.s 33), (.s 36)])⟩, (some []), [], 511, false⟩,
    ⟨⟨none, (some 38), .inl (.mv (.s 0))⟩, (some []), [], 0, false⟩,
    ⟨⟨none, (some 39), .inl (.mv (.s 1))⟩, (some []), [], 0, false⟩,
    ⟨⟨none, (some 40), .inl (.ias 1 (.s 39) (.c (.int .i64 5)))⟩, (some []), [], 2048, false⟩,
    ⟨⟨none, (some 41), .inl (.ld false 1 (.s 40))⟩, (some []), [], 6144, false⟩,
    ⟨⟨none, (some 42), .inr (.fn 98 [(.s 38), (.s 41)])⟩, (some []), [], 16383, false⟩,
    ⟨⟨none, (some 43), .inl (.bld [(.int .i64 0), (.int .i64 0), (.int .i64 0), (.slice none 0 0)] [(0, 1, (.s 32)), (1, 1, (.s 37)), (2, 1, (.s 42))])⟩, (some []), [], 32767, false⟩,
    ⟨⟨none, none, .inl (.st 4 (.s 4) (.s 43))⟩, (some [.at 4]), [], 65535, false⟩])
  (.ret)))
/-- gyttja/gyttjaref01.In -/
def k76 : Cd :=
  .seq (.region [⟨none, (some 6), .inl (.mv (.c (.bool false)))⟩])
  (.seq (.region [⟨none, (some 7), .inl (.mv (.s 0))⟩,
    ⟨none, (some 8), .inl (.mv (.s 1))⟩,
    ⟨none, (some 9), .inl (.bin .geq (.s 7) (.s 8))⟩,
    ⟨none, (some 10), .inl (.mv (.s 9))⟩,
    ⟨(some (10, true)), (some 11), .inl (.mv (.s 0))⟩,
    ⟨(some (10, true)), (some 12), .inl (.mv (.s 2))⟩,
    ⟨(some (10, true)), (some 13), .inl (.bin .leq (.s 11) (.s 12))⟩,
    ⟨none, (some 14), .inl (.pick (.s 10) (.s 13) (.c (.bool false)))⟩,
    ⟨none, (some 6), .inl (.mv (.s 14))⟩])
  (.ret))
def k77l0 : Cd :=
  .seq (.seq (.region [⟨none, (some 11), .inl (.mv (.s 7))⟩,
    ⟨none, (some 12), .inl (.mv (.s 0))⟩,
    ⟨none, (some 13), .inl (.len (.s 12))⟩,
    ⟨none, (some 14), .inl (.bin .lss (.s 11) (.s 13))⟩])
  (.cond (.s 14) (.skip)
  (.exit 0)))
  (.seq (.block 1 (.seq (.seq (.region [⟨none, (some 17), .inl (.mv (.s 0))⟩,
    ⟨none, (some 18), .inl (.mv (.s 7))⟩,
    ⟨none, (some 19), .inl (.ias 3 (.s 17) (.s 18))⟩,
    ⟨none, (some 20), .inl (.ld true 3 (.s 19))⟩,
    ⟨none, (some 21), .inr (.fn 99 [(.s 20)])⟩,
    ⟨none, (some 22), .inl (.bin .neq (.s 21) (.c (.int .i64 0)))⟩])
  (.cond (.s 22) (.seq (.region [⟨none, (some 2), .inl (.mv (.c (.int .i64 0)))⟩,
     ⟨none, (some 3), .inl (.mv (.c (.int .i64 0)))⟩,
     ⟨none, (some 4), .inl (.mv (.c (.int .i64 10)))⟩])
   (.ret))
  (.skip)))
  (.seq (.region [⟨none, (some 23), .inl (.mv (.s 5))⟩,
    ⟨none, (some 24), .inl (.mv (.s 0))⟩,
    ⟨none, (some 25), .inl (.mv (.s 7))⟩,
    ⟨none, (some 26), .inl (.ias 3 (.s 24) (.s 25))⟩,
    ⟨none, (some 27), .inl (.ld true 3 (.s 26))⟩,
    ⟨none, (some 28), .inr (.fn 100 [(.s 27)])⟩,
    ⟨none, (some 29), .inl (.bin .add (.s 23) (.s 28))⟩,
    ⟨none, (some 5), .inl (.mv (.s 29))⟩])
  (.region [⟨none, (some 30), .inl (.mv (.s 6))⟩,
    ⟨none, (some 31), .inl (.mv (.s 0))⟩,
    ⟨none, (some 32), .inl (.mv (.s 7))⟩,
    ⟨none, (some 33), .inl (.ias 3 (.s 31) (.s 32))⟩,
    ⟨none, (some 34), .inl (.ld true 3 (.s 33))⟩,
    ⟨none, (some 35), .inr (.fn 101 [(.s 34)])⟩,
    ⟨none, (some 36), .inl (.bin .add (.s 30) (.s 35))⟩,
    ⟨none, (some 6), .inl (.mv (.s 36))⟩]))))
  (.region [⟨none, (some 15), .inl (.mv (.s 7))⟩,
    ⟨none, (some 16), .inl (.bin .add (.s 15) (.c (.int .i64 1)))⟩,
    ⟨none, (some 7), .inl (.mv (.s 16))⟩]))
/-- gyttja/gyttjaref01.Years -/
def k77 : Cd :=
  .seq (.region [⟨none, (some 2), .inl (.mv (.c (.int .i64 0)))⟩,
    ⟨none, (some 3), .inl (.mv (.c (.int .i64 0)))⟩,
    ⟨none, (some 4), .inl (.mv (.c (.int .i64 0)))⟩])
  (.seq (.seq (.region [⟨none, (some 8), .inl (.mv (.s 0))⟩,
    ⟨none, (some 9), .inl (.len (.s 8))⟩,
    ⟨none, (some 10), .inl (.bin .gtr (.s 9) (.c (.int .i64 400)))⟩])
  (.cond (.s 10) (.seq (.region [⟨none, (some 2), .inl (.mv (.c (.int .i64 0)))⟩,
     ⟨none, (some 3), .inl (.mv (.c (.int .i64 0)))⟩,
     ⟨none, (some 4), .inl (.mv (.c (.int .i64 2)))⟩])
   (.ret))
  (.skip)))
  (.seq (.region [⟨none, (some 5), .inl (.mv (.c (.int .i64 0)))⟩])
  (.seq (.region [⟨none, (some 6), .inl (.mv (.c (.int .i64 0)))⟩])
  (.seq (.seq (.region [⟨none, (some 7), .inl (.mv (.c (.int .i64 0)))⟩])
  (.block 0 (.loop k77l0)))
  (.seq (.seq (.region [⟨none, (some 37), .inl (.mv (.s 6))⟩,
    ⟨none, (some 38), .inl (.bin .gtr (.s 37) (.c (.int .i64 100000)))⟩])
  (.cond (.s 38) (.seq (.region [⟨none, (some 2), .inl (.mv (.c (.int .i64 0)))⟩,
     ⟨none, (some 3), .inl (.mv (.c (.int .i64 0)))⟩,
     ⟨none, (some 4), .inl (.mv (.c (.int .i64 2)))⟩])
   (.ret))
  (.skip)))
  (.seq (.region [⟨none, (some 39), .inl (.mv (.s 5))⟩,
    ⟨none, (some 40), .inl (.mv (.s 6))⟩,
    ⟨none, (some 2), .inl (.mv (.s 39))⟩,
    ⟨none, (some 3), .inl (.mv (.s 40))⟩,
    ⟨none, (some 4), .inl (.mv (.c (.int .i64 0)))⟩])
  (.ret)))))))
/-- gyttja/sheet.Place -/
def k80 : Cd :=
  .seq (.region [⟨none, (some 2), .inl (.mv (.c (.int .i64 0)))⟩,
    ⟨none, (some 3), .inl (.mv (.c (.int .i64 0)))⟩])
  (.seq (.seq (.region [⟨none, (some 4), .inl (.mv (.s 0))⟩,
    ⟨none, (some 5), .inr (.fn 69 [(.s 4), (.c (.int .i64 1)), (.c (.int .i64 2048))])⟩,
    ⟨none, (some 6), .inl (.not (.s 5))⟩])
  (.cond (.s 6) (.seq (.region [⟨none, (some 2), .inl (.mv (.c (.int .i64 (-1))))⟩,
     ⟨none, (some 3), .inl (.mv (.c (.int .i64 (-1))))⟩])
   (.ret))
  (.skip)))
  (.seq (.region [⟨none, (some 7), .inl (.mv (.s 0))⟩,
    ⟨none, (some 8), .inl (.bin .sub (.s 7) (.c (.int .i64 1)))⟩,
    ⟨none, (some 9), .inl (.bin .quo (.s 8) (.c (.int .i64 64)))⟩,
    ⟨none, (some 10), .inl (.mv (.s 0))⟩,
    ⟨none, (some 11), .inl (.bin .sub (.s 10) (.c (.int .i64 1)))⟩,
    ⟨none, (some 12), .inl (.bin .rem (.s 11) (.c (.int .i64 64)))⟩,
    ⟨none, (some 2), .inl (.mv (.s 9))⟩,
    ⟨none, (some 3), .inl (.mv (.s 12))⟩])
  (.ret)))
def k81l0 : Cd :=
  .seq (.region [⟨none, (some 9), .inl (.bin .lss (.s 8) (.s 7))⟩])
  (.seq (.cond (.s 9) (.skip)
  (.exit 0))
  (.seq (.block 1 (.seq (.region [⟨none, (some 10), .inl (.mv (.s 8))⟩,
    ⟨none, (some 5), .inl (.mv (.s 10))⟩])
  (.seq (.draw [⟨⟨none, (some 11), .inl (.ld true 3 (.s 3))⟩, (some []), [], 0, false⟩,
    ⟨⟨none, (some 12), .inl (.mv (.s 0))⟩, (some []), [], 0, false⟩,
    ⟨⟨none, (some 13), .inl (.mv (.s 5))⟩, (some []), [], 0, false⟩,
    ⟨⟨none, (some 14), .inl (.ias 3 (.s 12) (.s 13))⟩, (some []), [], 6, false⟩,
    ⟨⟨none, (some 15), .inl (.ld true 3 (.s 14))⟩, (some []), [], 14, false⟩,
    ⟨⟨none, (some 16), .inl (.eq false (.cells [.int, .int, .int]) (.s 11) (.s 15))⟩, (some []), [], 31, false⟩])
  (.cond (.s 16) (.seq (.region [⟨none, (some 17), .inl (.mv (.s 5))⟩,
     ⟨none, (some 4), .inl (.mv (.s 17))⟩])
   (.ret))
  (.skip)))))
  (.region [⟨none, (some 18), .inl (.bin .add (.s 8) (.c (.int .i64 1)))⟩,
    ⟨none, (some 8), .inl (.mv (.s 18))⟩])))
/-- slices.Index[[]gyttja/api.Row,gyttja/api.Row] -/
def k81 : Cd :=
  .seq (.region [⟨none, (some 3), .inl (.box 71 3 (.s 1))⟩,
    ⟨none, (some 4), .inl (.mv (.c (.int .i64 0)))⟩])
  (.seq (.seq (.region [⟨none, (some 6), .inl (.mv (.s 0))⟩,
    ⟨none, (some 7), .inl (.len (.s 6))⟩,
    ⟨none, (some 8), .inl (.mv (.c (.int .i64 0)))⟩])
  (.block 0 (.loop k81l0)))
  (.seq (.region [⟨none, (some 4), .inl (.mv (.c (.int .i64 (-1))))⟩])
  (.ret)))
def k82l0 : Cd :=
  .seq (.seq (.region [⟨none, (some 13), .inl (.mv (.s 7))⟩,
    ⟨none, (some 14), .inl (.fa (.s 2) 3)⟩,
    ⟨none, (some 15), .inl (.ld false 1 (.s 14))⟩,
    ⟨none, (some 16), .inl (.len (.s 15))⟩,
    ⟨none, (some 17), .inl (.bin .lss (.s 13) (.s 16))⟩])
  (.cond (.s 17) (.skip)
  (.exit 0)))
  (.seq (.block 1 (.seq (.region [⟨none, (some 20), .inl (.mv (.s 5))⟩,
    ⟨none, (some 21), .inl (.fa (.s 2) 2)⟩,
    ⟨none, (some 22), .inl (.ld false 1 (.s 21))⟩,
    ⟨none, (some 23), .inl (.bin .eql (.s 20) (.s 22))⟩,
    ⟨none, (some 24), .inl (.mv (.s 23))⟩,
    ⟨(some (24, true)), (some 25), .inl (.fa (.s 2) 3)⟩,
    ⟨(some (24, true)), (some 26), .inl (.ld false 1 (.s 25))⟩,
    ⟨(some (24, true)), (some 27), .inl (.mv (.s 7))⟩,
    ⟨(some (24, true)), (some 28), .inl (.ias 3 (.s 26) (.s 27))⟩,
    ⟨(some (24, true)), (some 29), .inl (.fa (.s 28) 0)⟩,
    ⟨(some (24, true)), (some 30), .inl (.ld false 1 (.s 29))⟩,
    ⟨(some (24, true)), (some 31), .inl (.bin .eql (.s 30) (.c (.int .i64 1)))⟩,
    ⟨none, (some 32), .inl (.pick (.s 24) (.s 31) (.c (.bool false)))⟩,
    ⟨none, (some 33), .inl (.mv (.s 32))⟩,
    ⟨(some (33, true)), (some 34), .inl (.fa (.s 2) 3)⟩,
    ⟨(some (33, true)), (some 35), .inl (.ld false 1 (.s 34))⟩,
    ⟨(some (33, true)), (some 36), .inl (.mv (.s 7))⟩,
    ⟨(some (33, true)), (some 37), .inl (.ias 3 (.s 35) (.s 36))⟩,
    ⟨(some (33, true)), (some 38), .inl (.fa (.s 37) 1)⟩,
    ⟨(some (33, true)), (some 39), .inl (.ld false 1 (.s 38))⟩,
    ⟨(some (33, true)), (some 40), .inl (.mv (.s 6))⟩,
    ⟨(some (33, true)), (some 41), .inl (.bin .eql (.s 39) (.s 40))⟩,
    ⟨none, (some 42), .inl (.pick (.s 33) (.s 41) (.c (.bool false)))⟩])
  (.cond (.s 42) (.seq (.region [⟨none, (some 43), .inl (.mv (.s 7))⟩,
     ⟨none, (some 4), .inl (.mv (.s 43))⟩])
   (.ret))
  (.skip))))
  (.region [⟨none, (some 18), .inl (.mv (.s 7))⟩,
    ⟨none, (some 19), .inl (.bin .add (.s 18) (.c (.int .i64 1)))⟩,
    ⟨none, (some 7), .inl (.mv (.s 19))⟩]))
/-- gyttja/gyttjaref01.At -/
def k82 : Cd :=
  .seq (.region [⟨none, (some 2), .inl (.box 25 4 (.s 0))⟩,
    ⟨none, (some 4), .inl (.mv (.c (.int .i64 0)))⟩])
  (.seq (.region [⟨none, (some 9), .inl (.mv (.s 1))⟩,
    ⟨none, (some 10), .inr (.fn 104 [(.s 9)])⟩,
    ⟨none, (some 8), .inl (.mv (.s 10))⟩,
    ⟨none, (some 11), .inl (.ex (.s 8) 0)⟩,
    ⟨none, (some 12), .inl (.ex (.s 8) 1)⟩,
    ⟨none, (some 5), .inl (.mv (.s 11))⟩,
    ⟨none, (some 6), .inl (.mv (.s 12))⟩])
  (.seq (.seq (.region [⟨none, (some 7), .inl (.mv (.c (.int .i64 0)))⟩])
  (.block 0 (.loop k82l0)))
  (.seq (.region [⟨none, (some 4), .inl (.mv (.c (.int .i64 (-1))))⟩])
  (.ret))))
/-- slices.Grow[[]gyttja/api.Row,gyttja/api.Row] -/
def k83 : Cd :=
  .seq (.region [⟨none, (some 4), .inl (.mv (.c (.slice none 0 0)))⟩])
  (.seq (.seq (.region [⟨none, (some 5), .inl (.mv (.s 1))⟩,
    ⟨none, (some 6), .inl (.bin .lss (.s 5) (.c (.int .i64 0)))⟩])
  (.cond (.s 6) (.region [⟨none, (some 7), .inl (.mki 9 (.c (.string ⟨#[99, 97, 110, 110, 111, 116, 32, 98, 101, 32, 110, 101, 103, 97, 116, 105, 118, 101]⟩)))⟩,
     ⟨none, none, .inr (.pan (.s 7))⟩])
  (.skip)))
  (.seq (.seq (.region [⟨none, (some 8), .inl (.mv (.s 1))⟩,
    ⟨none, (some 9), .inl (.mv (.s 0))⟩,
    ⟨none, (some 10), .inl (.cap (.s 9))⟩,
    ⟨none, (some 11), .inl (.mv (.s 0))⟩,
    ⟨none, (some 12), .inl (.len (.s 11))⟩,
    ⟨none, (some 13), .inl (.bin .sub (.s 10) (.s 12))⟩,
    ⟨none, (some 14), .inl (.bin .sub (.s 8) (.s 13))⟩,
    ⟨none, (some 1), .inl (.mv (.s 14))⟩])
  (.seq (.region [⟨none, (some 15), .inl (.mv (.s 1))⟩,
    ⟨none, (some 16), .inl (.bin .gtr (.s 15) (.c (.int .i64 0)))⟩])
  (.cond (.s 16) (.region [⟨none, (some 17), .inl (.mv (.s 0))⟩,
     ⟨none, (some 18), .inl (.mv (.s 0))⟩,
     ⟨none, (some 19), .inl (.cap (.s 18))⟩,
     ⟨none, (some 20), .inl (.slc 3 (.s 17) none (some (.s 19)) none)⟩,
     ⟨none, (some 21), .inl (.mv (.s 1))⟩,
     ⟨none, (some 22), .inl (.apz 71 3 24 [(.int .i64 0), (.int .i64 0), (.int .i64 0)] (.s 20) (.s 21))⟩,
     ⟨none, (some 23), .inl (.mv (.s 0))⟩,
     ⟨none, (some 24), .inl (.len (.s 23))⟩,
     ⟨none, (some 25), .inl (.slc 3 (.s 22) none (some (.s 24)) none)⟩,
     ⟨none, (some 0), .inl (.mv (.s 25))⟩])
  (.skip))))
  (.seq (.region [⟨none, (some 26), .inl (.mv (.s 0))⟩,
    ⟨none, (some 4), .inl (.mv (.s 26))⟩])
  (.ret))))
/-- gyttja/sheet.checkBoth -/
def k84 : Cd :=
  .seq (.region [⟨none, (some 2), .inl (.box 25 4 (.s 0))⟩,
    ⟨none, (some 3), .inl (.box 25 4 (.s 1))⟩,
    ⟨none, (some 4), .inl (.mv (.c (.int .i64 0)))⟩])
  (.seq (.seq (.region [⟨none, (some 7), .inl (.ld true 4 (.s 2))⟩,
    ⟨none, (some 8), .inr (.fn 40 [(.s 7)])⟩,
    ⟨none, (some 5), .inl (.mv (.s 8))⟩])
  (.seq (.region [⟨none, (some 9), .inl (.mv (.s 5))⟩,
    ⟨none, (some 10), .inl (.bin .neq (.s 9) (.c (.int .i64 0)))⟩])
  (.cond (.s 10) (.seq (.region [⟨none, (some 11), .inl (.mv (.s 5))⟩,
     ⟨none, (some 4), .inl (.mv (.s 11))⟩])
   (.ret))
  (.skip))))
  (.seq (.seq (.region [⟨none, (some 12), .inl (.ld true 4 (.s 3))⟩,
    ⟨none, (some 13), .inr (.fn 40 [(.s 12)])⟩,
    ⟨none, (some 6), .inl (.mv (.s 13))⟩])
  (.seq (.region [⟨none, (some 14), .inl (.mv (.s 6))⟩,
    ⟨none, (some 15), .inl (.bin .neq (.s 14) (.c (.int .i64 0)))⟩])
  (.cond (.s 15) (.seq (.region [⟨none, (some 16), .inl (.mv (.s 6))⟩,
     ⟨none, (some 4), .inl (.mv (.s 16))⟩])
   (.ret))
  (.skip))))
  (.seq (.seq (.region [⟨none, (some 17), .inl (.fa (.s 2) 2)⟩,
    ⟨none, (some 18), .inl (.ld false 1 (.s 17))⟩,
    ⟨none, (some 19), .inl (.fa (.s 3) 2)⟩,
    ⟨none, (some 20), .inl (.ld false 1 (.s 19))⟩,
    ⟨none, (some 21), .inl (.bin .neq (.s 18) (.s 20))⟩])
  (.cond (.s 21) (.seq (.region [⟨none, (some 4), .inl (.mv (.c (.int .i64 14)))⟩])
   (.ret))
  (.skip)))
  (.seq (.region [⟨none, (some 4), .inl (.mv (.c (.int .i64 0)))⟩])
  (.ret)))))
def k85l0 : Cd :=
  .seq (.region [⟨none, (some 24), .inl (.bin .lss (.s 23) (.s 22))⟩])
  (.seq (.cond (.s 24) (.skip)
  (.exit 0))
  (.seq (.block 1 (.seq (.region [⟨none, (some 25), .inl (.ias 1 (.s 21) (.s 23))⟩,
    ⟨none, (some 26), .inl (.ld false 1 (.s 25))⟩,
    ⟨none, (some 10), .inl (.mv (.s 26))⟩])
  (.seq (.seq (.region [⟨none, (some 27), .inl (.mv (.s 8))⟩,
    ⟨none, (some 28), .inl (.bin .neq (.s 27) (.c (.int .i64 (-1))))⟩])
  (.cond (.s 28) (.seq (.region [⟨none, (some 30), .inl (.mv (.s 5))⟩,
     ⟨none, (some 31), .inl (.mv (.s 8))⟩,
     ⟨none, (some 32), .inl (.mv (.s 10))⟩,
     ⟨none, (some 33), .inr (.fn 64 [(.s 30), (.s 31), (.s 32)])⟩,
     ⟨none, (some 29), .inl (.mv (.s 33))⟩,
     ⟨none, (some 34), .inl (.ex (.s 29) 0)⟩,
     ⟨none, (some 35), .inl (.ex (.s 29) 1)⟩,
     ⟨none, (some 11), .inl (.mv (.s 34))⟩,
     ⟨none, (some 12), .inl (.mv (.s 35))⟩])
   (.seq (.region [⟨none, (some 37), .inl (.mv (.s 6))⟩,
     ⟨none, (some 38), .inl (.mv (.s 8))⟩,
     ⟨none, (some 39), .inl (.mv (.s 10))⟩,
     ⟨none, (some 40), .inr (.fn 64 [(.s 37), (.s 38), (.s 39)])⟩,
     ⟨none, (some 36), .inl (.mv (.s 40))⟩,
     ⟨none, (some 41), .inl (.ex (.s 36) 0)⟩,
     ⟨none, (some 42), .inl (.ex (.s 36) 1)⟩,
     ⟨none, (some 13), .inl (.mv (.s 41))⟩,
     ⟨none, (some 14), .inl (.mv (.s 42))⟩])
   (.region [⟨none, (some 43), .inl (.mv (.s 7))⟩,
     ⟨none, (some 44), .inl (.mv (.s 8))⟩,
     ⟨none, (some 45), .inl (.mv (.s 10))⟩,
     ⟨none, (some 46), .inl (.mv (.s 11))⟩,
     ⟨none, (some 47), .inl (.mv (.s 13))⟩,
     ⟨none, (some 48), .inl (.mm true (.s 46) (.s 47))⟩,
     ⟨none, (some 49), .inl (.mv (.s 12))⟩,
     ⟨none, (some 50), .inl (.mv (.s 14))⟩,
     ⟨none, (some 51), .inl (.mm false (.s 49) (.s 50))⟩,
     ⟨none, (some 52), .inl (.bld [(.int .i64 0), (.int .i64 0), (.int .i64 0), (.int .i64 0)] [(0, 1, (.s 44)), (1, 1, (.s 45)), (2, 1, (.s 48)), (3, 1, (.s 51))])⟩,
     ⟨none, (some 53), .inl (.bs 54 4 1 [(.int .i64 0), (.int .i64 0), (.int .i64 0), (.int .i64 0)] [(0, (.s 52))])⟩,
     ⟨none, (some 54), .inl (.app 54 4 32 (.s 43) (.s 53))⟩,
     ⟨none, (some 7), .inl (.mv (.s 54))⟩])))
  (.skip)))
  (.region [⟨none, (some 55), .inl (.mv (.s 10))⟩,
    ⟨none, (some 8), .inl (.mv (.s 55))⟩]))))
  (.region [⟨none, (some 56), .inl (.bin .add (.s 23) (.c (.int .i64 1)))⟩,
    ⟨none, (some 23), .inl (.mv (.s 56))⟩])))
/-- gyttja/sheet.both -/
def k85 : Cd :=
  .seq (.region [⟨none, (some 2), .inl (.box 25 4 (.s 0))⟩,
    ⟨none, (some 3), .inl (.box 25 4 (.s 1))⟩,
    ⟨none, (some 4), .inl (.mv (.c (.slice none 0 0)))⟩])
  (.seq (.draw [⟨⟨none, (some 15), .inl (.ld true 4 (.s 2))⟩, (some []), [], 0, false⟩,
    ⟨⟨none, (some 16), .inr (.fn 63 [(.s 15)])⟩, (some []), [], 1, false⟩,
    ⟨⟨none, (some 17), .inl (.ld true 4 (.s 3))⟩, (some []), [], 0, false⟩,
    ⟨⟨none, (some 18), .inr (.fn 63 [(.s 17)])⟩, (some []), [], 7, false⟩,
    ⟨⟨none, (some 5), .inl (.mv (.s 16))⟩, (some []), [], 15, false⟩,
    ⟨⟨none, (some 6), .inl (.mv (.s 18))⟩, (some []), [], 31, false⟩])
  (.seq (.region [⟨none, (some 7), .inl (.mv (.c (.slice none 0 0)))⟩])
  (.seq (.region [⟨none, (some 8), .inl (.mv (.c (.int .i64 (-1))))⟩])
  (.seq (.seq (.region [⟨none, (some 19), .inl (.ld true 4 (.s 2))⟩,
    ⟨none, (some 20), .inl (.ld true 4 (.s 3))⟩,
    ⟨none, (some 21), .inr (.fn 105 [(.s 19), (.s 20)])⟩,
    ⟨none, (some 22), .inl (.len (.s 21))⟩,
    ⟨none, (some 23), .inl (.mv (.c (.int .i64 0)))⟩])
  (.block 0 (.loop k85l0)))
  (.seq (.region [⟨none, (some 57), .inl (.mv (.s 7))⟩,
    ⟨none, (some 4), .inl (.mv (.s 57))⟩])
  (.ret))))))
def k86l0 : Cd :=
  .seq (.seq (.region [⟨none, (some 8), .inl (.mv (.s 4))⟩,
    ⟨none, (some 9), .inl (.fa (.s 1) 3)⟩,
    ⟨none, (some 10), .inl (.ld false 1 (.s 9))⟩,
    ⟨none, (some 11), .inl (.len (.s 10))⟩,
    ⟨none, (some 12), .inl (.bin .lss (.s 8) (.s 11))⟩])
  (.cond (.s 12) (.skip)
  (.exit 0)))
  (.seq (.block 1 (.seq (.region [⟨none, (some 15), .inl (.fa (.s 1) 3)⟩,
    ⟨none, (some 16), .inl (.ld false 1 (.s 15))⟩,
    ⟨none, (some 17), .inl (.mv (.s 4))⟩,
    ⟨none, (some 18), .inl (.ias 3 (.s 16) (.s 17))⟩,
    ⟨none, (some 19), .inl (.fa (.s 18) 0)⟩,
    ⟨none, (some 20), .inl (.ld false 1 (.s 19))⟩,
    ⟨none, (some 21), .inl (.bin .eql (.s 20) (.c (.int .i64 1)))⟩])
  (.cond (.s 21) (.draw [⟨⟨none, (some 22), .inl (.mv (.s 3))⟩, (some []), [], 0, false⟩,
     ⟨⟨none, (some 23), .inl (.fa (.s 1) 2)⟩, (some []), [], 0, false⟩,
     ⟨⟨none, (some 24), .inl (.ld false 1 (.s 23))⟩, (some []), [], 2, false⟩,
     ⟨⟨none, (some 25), .inl (.fa (.s 1) 3)⟩, (some []), [], 0, false⟩,
     ⟨⟨none, (some 26), .inl (.ld false 1 (.s 25))⟩, (some []), [], 8, false⟩,
     ⟨⟨none, (some 27), .inl (.mv (.s 4))⟩, (some []), [], 0, false⟩,
     ⟨⟨none, (some 28), .inl (.ias 3 (.s 26) (.s 27))⟩, (some []), [], 56, false⟩,
     ⟨⟨none, (some 29), .inl (.fa (.s 28) 1)⟩, (some []), [], 120, false⟩,
     ⟨⟨none, (some 30), .inl (.ld false 1 (.s 29))⟩, (some []), [], 248, false⟩,
     ⟨⟨none, (some 31), .inr (.fn 106 [(.s 24), (.s 30)])⟩, (some []), [], 510, false⟩,
     ⟨⟨none, (some 32), .inl (.bs 3 1 1 [(.int .i64 0)] [(0, (.s 31))])⟩, (some [.fr 32]), [], 1022, false⟩,
     ⟨⟨none, (some 33), .inl (.app 3 1 8 (.s 22) (.s 32))⟩, (some [.fr 33, .at 3]), [], 2047, false⟩,
     ⟨⟨none, (some 3), .inl (.mv (.s 33))⟩, (some []), [], 4095, false⟩])
  (.skip))))
  (.region [⟨none, (some 13), .inl (.mv (.s 4))⟩,
    ⟨none, (some 14), .inl (.bin .add (.s 13) (.c (.int .i64 1)))⟩,
    ⟨none, (some 4), .inl (.mv (.s 14))⟩]))
/-- gyttja/gyttjaref01.Marks -/
def k86 : Cd :=
  .seq (.region [⟨none, (some 1), .inl (.box 25 4 (.s 0))⟩,
    ⟨none, (some 2), .inl (.mv (.c (.slice none 0 0)))⟩])
  (.seq (.seq (.region [⟨none, (some 5), .inl (.ld true 4 (.s 1))⟩,
    ⟨none, (some 6), .inr (.fn 45 [(.s 5)])⟩,
    ⟨none, (some 7), .inl (.bin .neq (.s 6) (.c (.int .i64 0)))⟩])
  (.cond (.s 7) (.seq (.region [⟨none, (some 2), .inl (.mv (.c (.slice none 0 0)))⟩])
   (.ret))
  (.skip)))
  (.seq (.region [⟨none, (some 3), .inl (.mv (.c (.slice none 0 0)))⟩])
  (.seq (.seq (.region [⟨none, (some 4), .inl (.mv (.c (.int .i64 0)))⟩])
  (.block 0 (.loop k86l0)))
  (.seq (.region [⟨none, (some 34), .inl (.mv (.s 3))⟩,
    ⟨none, (some 2), .inl (.mv (.s 34))⟩])
  (.ret)))))
/-- gyttja/gyttjaref01.Between -/
def k87 : Cd :=
  .seq (.region [⟨none, (some 3), .inl (.box 25 4 (.s 0))⟩,
    ⟨none, (some 6), .inl (.alloc 54 [(.int .i64 0), (.int .i64 0), (.int .i64 0), (.int .i64 0)])⟩,
    ⟨none, (some 7), .inl (.mv (.c (.int .i64 0)))⟩])
  (.seq (.region [⟨none, (some 14), .inl (.ld true 4 (.s 3))⟩,
    ⟨none, (some 15), .inr (.fn 45 [(.s 14)])⟩,
    ⟨none, (some 8), .inl (.mv (.s 15))⟩])
  (.seq (.seq (.region [⟨none, (some 16), .inl (.mv (.s 8))⟩,
    ⟨none, (some 17), .inl (.bin .neq (.s 16) (.c (.int .i64 0)))⟩])
  (.cond (.s 17) (.seq (.region [⟨none, (some 18), .inl (.bld [(.int .i64 0), (.int .i64 0), (.int .i64 0), (.int .i64 0)] [])⟩,
     ⟨none, (some 19), .inl (.mv (.s 8))⟩,
     ⟨none, none, .inl (.st 4 (.s 6) (.s 18))⟩,
     ⟨none, (some 7), .inl (.mv (.s 19))⟩])
   (.ret))
  (.skip)))
  (.seq (.region [⟨none, (some 20), .inl (.ld true 4 (.s 3))⟩,
    ⟨none, (some 21), .inl (.mv (.s 1))⟩,
    ⟨none, (some 22), .inr (.fn 82 [(.s 20), (.s 21)])⟩,
    ⟨none, (some 9), .inl (.mv (.s 22))⟩])
  (.seq (.region [⟨none, (some 23), .inl (.ld true 4 (.s 3))⟩,
    ⟨none, (some 24), .inl (.mv (.s 2))⟩,
    ⟨none, (some 25), .inr (.fn 82 [(.s 23), (.s 24)])⟩,
    ⟨none, (some 10), .inl (.mv (.s 25))⟩])
  (.seq (.seq (.region [⟨none, (some 26), .inl (.mv (.s 9))⟩,
    ⟨none, (some 27), .inl (.bin .lss (.s 26) (.c (.int .i64 0)))⟩,
    ⟨none, (some 28), .inl (.mv (.s 27))⟩,
    ⟨(some (28, false)), (some 29), .inl (.mv (.s 10))⟩,
    ⟨(some (28, false)), (some 30), .inl (.bin .lss (.s 29) (.c (.int .i64 0)))⟩,
    ⟨none, (some 31), .inl (.pick (.s 28) (.c (.bool true)) (.s 30))⟩])
  (.cond (.s 31) (.seq (.region [⟨none, (some 32), .inl (.bld [(.int .i64 0), (.int .i64 0), (.int .i64 0), (.int .i64 0)] [])⟩,
     ⟨none, none, .inl (.st 4 (.s 6) (.s 32))⟩,
     ⟨none, (some 7), .inl (.mv (.c (.int .i64 3)))⟩])
   (.ret))
  (.skip)))
  (.seq (.region [⟨none, (some 34), .inl (.fa (.s 3) 3)⟩,
    ⟨none, (some 35), .inl (.ld false 1 (.s 34))⟩,
    ⟨none, (some 36), .inl (.mv (.s 9))⟩,
    ⟨none, (some 37), .inl (.mv (.s 10))⟩,
    ⟨none, (some 38), .inl (.mm false (.s 36) (.s 37))⟩,
    ⟨none, (some 39), .inl (.mv (.s 9))⟩,
    ⟨none, (some 40), .inl (.mv (.s 10))⟩,
    ⟨none, (some 41), .inl (.mm true (.s 39) (.s 40))⟩,
    ⟨none, (some 42), .inl (.slc 3 (.s 35) (some (.s 38)) (some (.s 41)) none)⟩,
    ⟨none, (some 43), .inr (.fn 77 [(.s 42)])⟩,
    ⟨none, (some 33), .inl (.mv (.s 43))⟩,
    ⟨none, (some 44), .inl (.ex (.s 33) 0)⟩,
    ⟨none, (some 45), .inl (.ex (.s 33) 1)⟩,
    ⟨none, (some 46), .inl (.ex (.s 33) 2)⟩,
    ⟨none, (some 11), .inl (.mv (.s 44))⟩,
    ⟨none, (some 12), .inl (.mv (.s 45))⟩,
    ⟨none, (some 13), .inl (.mv (.s 46))⟩])
  (.seq (.seq (.region [⟨none, (some 47), .inl (.mv (.s 9))⟩,
    ⟨none, (some 48), .inl (.mv (.s 10))⟩,
    ⟨none, (some 49), .inl (.bin .gtr (.s 47) (.s 48))⟩])
  (.cond (.s 49) (.seq (.region [⟨none, (some 50), .inl (.mv (.s 1))⟩,
     ⟨none, (some 51), .inl (.mv (.s 2))⟩,
     ⟨none, (some 52), .inl (.mv (.s 12))⟩,
     ⟨none, (some 53), .inl (.neg (.s 52))⟩,
     ⟨none, (some 54), .inl (.mv (.s 11))⟩,
     ⟨none, (some 55), .inl (.neg (.s 54))⟩,
     ⟨none, (some 56), .inl (.bld [(.int .i64 0), (.int .i64 0), (.int .i64 0), (.int .i64 0)] [(0, 1, (.s 50)), (1, 1, (.s 51)), (2, 1, (.s 53)), (3, 1, (.s 55))])⟩,
     ⟨none, none, .inl (.st 4 (.s 6) (.s 56))⟩,
     ⟨none, (some 7), .inl (.mv (.c (.int .i64 0)))⟩])
   (.ret))
  (.skip)))
  (.seq (.region [⟨none, (some 57), .inl (.mv (.s 1))⟩,
    ⟨none, (some 58), .inl (.mv (.s 2))⟩,
    ⟨none, (some 59), .inl (.mv (.s 11))⟩,
    ⟨none, (some 60), .inl (.mv (.s 12))⟩,
    ⟨none, (some 61), .inl (.bld [(.int .i64 0), (.int .i64 0), (.int .i64 0), (.int .i64 0)] [(0, 1, (.s 57)), (1, 1, (.s 58)), (2, 1, (.s 59)), (3, 1, (.s 60))])⟩,
    ⟨none, none, .inl (.st 4 (.s 6) (.s 61))⟩,
    ⟨none, (some 7), .inl (.mv (.c (.int .i64 0)))⟩])
  (.ret)))))))))
def k88l0 : Cd :=
  .seq (.region [⟨none, (some 10), .inl (.bin .lss (.s 9) (.s 8))⟩])
  (.seq (.cond (.s 10) (.skip)
  (.exit 0))
  (.seq (.block 1 (.seq (.region [⟨none, (some 11), .inl (.ias 3 (.s 7) (.s 9))⟩,
    ⟨none, (some 12), .inl (.ld true 3 (.s 11))⟩,
    ⟨none, (some 5), .inl (.alloc 71 [(.int .i64 0), (.int .i64 0), (.int .i64 0)])⟩,
    ⟨none, none, .inl (.st 3 (.s 5) (.s 12))⟩])
  (.seq (.seq (.region [⟨none, (some 13), .inl (.mv (.s 0))⟩,
    ⟨none, (some 14), .inl (.mv (.s 3))⟩,
    ⟨none, (some 15), .inl (.ld true 3 (.s 5))⟩,
    ⟨none, (some 16), .inr (.val (.s 13) [(.s 14), (.s 15)])⟩,
    ⟨none, (some 17), .inl (.not (.s 16))⟩])
  (.cond (.s 17) (.ret)
  (.skip)))
  (.seq (.region [⟨none, (some 18), .inl (.fa (.s 5) 0)⟩,
    ⟨none, (some 19), .inl (.ld false 1 (.s 18))⟩,
    ⟨none, (some 20), .inl (.bin .eql (.s 19) (.c (.int .i64 1)))⟩])
  (.cond (.s 20) (.region [⟨none, (some 21), .inl (.fa (.s 1) 2)⟩,
     ⟨none, (some 22), .inl (.ld false 1 (.s 21))⟩,
     ⟨none, (some 23), .inl (.fa (.s 5) 1)⟩,
     ⟨none, (some 24), .inl (.ld false 1 (.s 23))⟩,
     ⟨none, (some 25), .inr (.fn 37 [(.s 22), (.s 24)])⟩,
     ⟨none, (some 3), .inl (.mv (.s 25))⟩])
  (.skip))))))
  (.region [⟨none, (some 26), .inl (.bin .add (.s 9) (.c (.int .i64 1)))⟩,
    ⟨none, (some 9), .inl (.mv (.s 26))⟩])))
/-- gyttja/sheet.rowsBelow$1 -/
def k88 : Cd :=
  .seq (.region [⟨none, (some 3), .inl (.mv (.c (.int .i64 (-1))))⟩])
  (.seq (.region [⟨none, (some 6), .inl (.fa (.s 1) 3)⟩,
    ⟨none, (some 7), .inl (.ld false 1 (.s 6))⟩,
    ⟨none, (some 8), .inl (.len (.s 7))⟩,
    ⟨none, (some 9), .inl (.mv (.c (.int .i64 0)))⟩])
  (.block 0 (.loop k88l0)))
/-- gyttja/sheet.kinds -/
def k89 : Cd :=
  .seq (.region [⟨none, (some 0), .inl (.mv (.c (.map none)))⟩])
  (.seq (.region [⟨none, (some 1), .inl (.mkm)⟩,
    ⟨none, none, .inl (.upd .int (.s 1) (.c (.int .i64 1)) (.f 107))⟩,
    ⟨none, none, .inl (.upd .int (.s 1) (.c (.int .i64 2)) (.f 108))⟩,
    ⟨none, none, .inl (.upd .int (.s 1) (.c (.int .i64 3)) (.f 110))⟩,
    ⟨none, none, .inl (.upd .int (.s 1) (.c (.int .i64 4)) (.f 111))⟩,
    ⟨none, none, .inl (.upd .int (.s 1) (.c (.int .i64 5)) (.f 112))⟩,
    ⟨none, none, .inl (.upd .int (.s 1) (.c (.int .i64 6)) (.f 113))⟩,
    ⟨none, (some 2), .inl (.mv (.s 1))⟩,
    ⟨none, (some 0), .inl (.mv (.s 2))⟩])
  (.ret))
/-- gyttja/sheet.natureOf -/
def k90 : Cd :=
  .seq (.region [⟨none, (some 3), .inl (.box 71 3 (.s 1))⟩,
    ⟨none, (some 4), .inl (.alloc 104 [(.bool false), (.int .i64 0), (.int .i64 0), (.slice none 0 0), (.int .i64 0), (.bool false), (.bool false)])⟩])
  (.seq (.region [⟨none, (some 8), .inl (.mv (.s 0))⟩,
    ⟨none, (some 9), .inl (.fa (.s 3) 0)⟩,
    ⟨none, (some 10), .inl (.ld false 1 (.s 9))⟩,
    ⟨none, (some 11), .inl (.lk .int .nilFunc true (.s 8) (.s 10))⟩,
    ⟨none, (some 7), .inl (.mv (.s 11))⟩,
    ⟨none, (some 12), .inl (.ex (.s 7) 0)⟩,
    ⟨none, (some 13), .inl (.ex (.s 7) 1)⟩,
    ⟨none, (some 5), .inl (.mv (.s 12))⟩,
    ⟨none, (some 6), .inl (.mv (.s 13))⟩])
  (.seq (.seq (.region [⟨none, (some 14), .inl (.mv (.s 6))⟩,
    ⟨none, (some 15), .inl (.not (.s 14))⟩])
  (.cond (.s 15) (.seq (.region [⟨none, (some 16), .inl (.bld [(.bool false), (.int .i64 0), (.int .i64 0), (.slice none 0 0), (.int .i64 0), (.bool false), (.bool false)] [])⟩,
     ⟨none, none, .inl (.st 7 (.s 4) (.s 16))⟩])
   (.ret))
  (.skip)))
  (.seq (.region [⟨none, (some 17), .inl (.mv (.s 5))⟩,
    ⟨none, (some 18), .inl (.ld true 3 (.s 3))⟩,
    ⟨none, (some 19), .inr (.val (.s 17) [(.s 18)])⟩,
    ⟨none, none, .inl (.st 7 (.s 4) (.s 19))⟩])
  (.ret))))
/-- slices.ContainsFunc[[]gyttja/sheet.nature,gyttja/sheet.nature] -/
def k91 : Cd :=
  .seq (.region [⟨none, (some 4), .inl (.mv (.c (.bool false)))⟩])
  (.seq (.region [⟨none, (some 5), .inl (.mv (.s 0))⟩,
    ⟨none, (some 6), .inl (.mv (.s 1))⟩,
    ⟨none, (some 7), .inr (.fn 114 [(.s 5), (.s 6)])⟩,
    ⟨none, (some 8), .inl (.bin .geq (.s 7) (.c (.int .i64 0)))⟩,
    ⟨none, (some 4), .inl (.mv (.s 8))⟩])
  (.ret))
/-- gyttja/sheet.layered$1 -/
def k92 : Cd :=
  .seq (.region [⟨none, (some 1), .inl (.box 104 7 (.s 0))⟩,
    ⟨none, (some 2), .inl (.mv (.c (.bool false)))⟩])
  (.seq (.region [⟨none, (some 3), .inl (.fa (.s 1) 5)⟩,
    ⟨none, (some 4), .inl (.ld false 1 (.s 3))⟩,
    ⟨none, (some 2), .inl (.mv (.s 4))⟩])
  (.ret))
def k93l0 : Cd :=
  .seq (.seq (.region [⟨none, (some 5), .inl (.ld false 1 (.s 1))⟩,
    ⟨none, (some 6), .inl (.lens (.s 5))⟩,
    ⟨none, (some 7), .inl (.bin .gtr (.s 6) (.c (.int .i64 0)))⟩])
  (.cond (.s 7) (.skip)
  (.exit 0)))
  (.block 1 (.seq (.region [⟨none, (some 3), .inl (.mv (.c (.string ⟨#[]⟩)))⟩])
  (.seq (.seq (.region [⟨none, (some 8), .inl (.ld false 1 (.s 1))⟩,
    ⟨none, (some 9), .inr (.fn 94 [(.s 8), (.c (.int .u8 10))])⟩,
    ⟨none, (some 4), .inl (.mv (.s 9))⟩])
  (.seq (.region [⟨none, (some 10), .inl (.mv (.s 4))⟩,
    ⟨none, (some 11), .inl (.bin .geq (.s 10) (.c (.int .i64 0)))⟩])
  (.cond (.s 11) (.draw [⟨⟨none, (some 12), .inl (.ld false 1 (.s 1))⟩, (some []), [], 0, false⟩,
     ⟨⟨none, (some 13), .inl (.mv (.s 4))⟩, (some []), [], 0, false⟩,
     ⟨⟨none, (some 14), .inl (.bin .add (.s 13) (.c (.int .i64 1)))⟩, (some []), [], 2, false⟩,
     ⟨⟨none, (some 15), .inl (.sls (.s 12) none (some (.s 14)))⟩, (some []), [], 7, false⟩,
     ⟨⟨none, (some 16), .inl (.ld false 1 (.s 1))⟩, (some []), [], 0, false⟩,
     ⟨⟨none, (some 17), .inl (.mv (.s 4))⟩, (some []), [], 0, false⟩,
     ⟨⟨none, (some 18), .inl (.bin .add (.s 17) (.c (.int .i64 1)))⟩, (some []), [], 32, false⟩,
     ⟨⟨none, (some 19), .inl (.sls (.s 16) (some (.s 18)) none)⟩, (some []), [], 112, false⟩,
     ⟨⟨none, (some 3), .inl (.mv (.s 15))⟩, (some []), [], 15, false⟩,
     ⟨⟨none, none, .inl (.st 1 (.s 1) (.s 19))⟩, (some [.at 1]), [], 511, false⟩])
  (.region [⟨none, (some 20), .inl (.ld false 1 (.s 1))⟩,
     ⟨none, (some 3), .inl (.mv (.s 20))⟩,
     ⟨none, none, .inl (.st 1 (.s 1) (.c (.string ⟨#[]⟩)))⟩]))))
  (.seq (.region [⟨none, (some 21), .inl (.mv (.s 0))⟩,
    ⟨none, (some 22), .inl (.mv (.s 3))⟩,
    ⟨none, (some 23), .inr (.val (.s 21) [(.s 22)])⟩,
    ⟨none, (some 24), .inl (.not (.s 23))⟩])
  (.cond (.s 24) (.ret)
  (.skip))))))
/-- strings.Lines$1 -/
def k93 : Cd :=
  .block 0 (.loop k93l0)
/-- strings.IndexByte -/
def k94 : Cd :=
  .seq (.region [⟨none, (some 4), .inl (.mv (.c (.int .i64 0)))⟩])
  (.seq (.region [⟨none, (some 5), .inl (.mv (.s 0))⟩,
    ⟨none, (some 6), .inl (.mv (.s 1))⟩,
    ⟨none, (some 7), .inr (.fn 115 [(.s 5), (.s 6)])⟩,
    ⟨none, (some 4), .inl (.mv (.s 7))⟩])
  (.ret))
def k95l0 : Cd :=
  .seq (.region [⟨none, (some 15), .inl (.nxt (.s 14))⟩,
    ⟨none, (some 16), .inl (.ex (.s 15) 0)⟩])
  (.seq (.cond (.s 16) (.skip)
  (.exit 0))
  (.block 1 (.seq (.region [⟨none, (some 17), .inl (.ex (.s 15) 1)⟩,
    ⟨none, (some 18), .inl (.ex (.s 15) 2)⟩,
    ⟨none, (some 7), .inl (.mv (.s 17))⟩,
    ⟨none, (some 8), .inl (.mv (.s 18))⟩])
  (.seq (.region [⟨none, (some 19), .inl (.mv (.s 1))⟩,
    ⟨none, (some 20), .inl (.mv (.s 8))⟩,
    ⟨none, (some 21), .inr (.val (.s 19) [(.s 20)])⟩])
  (.cond (.s 21) (.seq (.region [⟨none, (some 22), .inl (.mv (.s 6))⟩,
     ⟨none, (some 23), .inl (.bin .geq (.s 22) (.c (.int .i64 0)))⟩])
   (.cond (.s 23) (.seq (.region [⟨none, (some 24), .inl (.mv (.s 5))⟩,
      ⟨none, (some 25), .inl (.mv (.s 6))⟩,
      ⟨none, (some 26), .inl (.mv (.s 7))⟩,
      ⟨none, (some 27), .inl (.bld [(.int .i64 0), (.int .i64 0)] [(0, 1, (.s 25)), (1, 1, (.s 26))])⟩,
      ⟨none, (some 28), .inl (.bs 148 2 1 [(.int .i64 0), (.int .i64 0)] [(0, (.s 27))])⟩,
      ⟨none, (some 29), .inl (.app 148 2 16 (.s 24) (.s 28))⟩,
      ⟨none, (some 5), .inl (.mv (.s 29))⟩])
    (.region [⟨none, (some 30), .inl (.mv (.s 6))⟩,
      ⟨none, (some 31), .inl (.cpl (.s 30))⟩,
      ⟨none, (some 6), .inl (.mv (.s 31))⟩]))
   (.skip)))
  (.seq (.region [⟨none, (some 32), .inl (.mv (.s 6))⟩,
     ⟨none, (some 33), .inl (.bin .lss (.s 32) (.c (.int .i64 0)))⟩])
   (.cond (.s 33) (.region [⟨none, (some 34), .inl (.mv (.s 7))⟩,
      ⟨none, (some 6), .inl (.mv (.s 34))⟩])
   (.skip))))))))
def k95l1 : Cd :=
  .seq (.region [⟨none, (some 50), .inl (.bin .lss (.s 49) (.s 48))⟩])
  (.seq (.cond (.s 50) (.skip)
  (.exit 2))
  (.seq (.block 3 (.seq (.region [⟨none, (some 51), .inl (.mv (.s 49))⟩,
    ⟨none, (some 52), .inl (.ias 2 (.s 47) (.s 49))⟩,
    ⟨none, (some 53), .inl (.ld true 2 (.s 52))⟩,
    ⟨none, (some 11), .inl (.alloc 148 [(.int .i64 0), (.int .i64 0)])⟩,
    ⟨none, (some 10), .inl (.mv (.s 51))⟩,
    ⟨none, none, .inl (.st 2 (.s 11) (.s 53))⟩])
  (.region [⟨none, (some 54), .inl (.mv (.s 9))⟩,
    ⟨none, (some 55), .inl (.mv (.s 10))⟩,
    ⟨none, (some 56), .inl (.mv (.s 0))⟩,
    ⟨none, (some 57), .inl (.fa (.s 11) 0)⟩,
    ⟨none, (some 58), .inl (.ld false 1 (.s 57))⟩,
    ⟨none, (some 59), .inl (.fa (.s 11) 1)⟩,
    ⟨none, (some 60), .inl (.ld false 1 (.s 59))⟩,
    ⟨none, (some 61), .inl (.sls (.s 56) (some (.s 58)) (some (.s 60)))⟩,
    ⟨none, (some 62), .inl (.ias 1 (.s 54) (.s 55))⟩,
    ⟨none, none, .inl (.st 1 (.s 62) (.s 61))⟩])))
  (.region [⟨none, (some 63), .inl (.bin .add (.s 49) (.c (.int .i64 1)))⟩,
    ⟨none, (some 49), .inl (.mv (.s 63))⟩])))
end Go.Proofs.YtomiigdpggeacaaDoor
