/- The small code of the functions of this program, as its own reader reads them: part A. -/
import Derived.Test.YtdljcjbghinhiaaDoorEmU
namespace Go.Proofs.YtdljcjbghinhiaaDoor
open Go Go.Em
set_option maxRecDepth 100000
/-- gyttja/gyttjalaw01.SheetAdds -/
def k3 : Cd :=
  .seq (.region [⟨none, (some 6), .inl (.mv (.c (.bool false)))⟩])
  (.seq (.region [⟨none, (some 28), .inr (.fn 8 [])⟩,
    ⟨none, (some 7), .inl (.mv (.s 28))⟩])
  (.seq (.region [⟨none, (some 29), .inl (.mv (.s 0))⟩,
    ⟨none, (some 30), .inr (.fn 9 [(.s 29)])⟩,
    ⟨none, (some 0), .inl (.mv (.s 30))⟩])
  (.seq (.region [⟨none, (some 31), .inl (.mv (.s 1))⟩,
    ⟨none, (some 32), .inr (.fn 9 [(.s 31)])⟩,
    ⟨none, (some 1), .inl (.mv (.s 32))⟩])
  (.seq (.region [⟨none, (some 33), .inl (.bs 80 3 0 [(.int .i64 0), (.int .i64 0), (.int .i64 0)] [])⟩,
    ⟨none, (some 34), .inl (.mv (.s 0))⟩,
    ⟨none, (some 35), .inl (.app 80 3 24 (.s 33) (.s 34))⟩,
    ⟨none, (some 36), .inl (.mv (.s 1))⟩,
    ⟨none, (some 37), .inl (.app 80 3 24 (.s 35) (.s 36))⟩,
    ⟨none, (some 8), .inl (.mv (.s 37))⟩])
  (.seq (.region [⟨none, (some 39), .inl (.mv (.s 0))⟩,
    ⟨none, (some 40), .inr (.fn 10 [(.s 39)])⟩,
    ⟨none, (some 38), .inl (.mv (.s 40))⟩,
    ⟨none, (some 41), .inl (.ex (.s 38) 0)⟩,
    ⟨none, (some 42), .inl (.ex (.s 38) 1)⟩,
    ⟨none, (some 43), .inl (.ex (.s 38) 2)⟩,
    ⟨none, (some 9), .inl (.mv (.s 41))⟩,
    ⟨none, (some 10), .inl (.mv (.s 42))⟩,
    ⟨none, (some 11), .inl (.mv (.s 43))⟩])
  (.seq (.region [⟨none, (some 45), .inl (.mv (.s 1))⟩,
    ⟨none, (some 46), .inr (.fn 10 [(.s 45)])⟩,
    ⟨none, (some 44), .inl (.mv (.s 46))⟩,
    ⟨none, (some 47), .inl (.ex (.s 44) 0)⟩,
    ⟨none, (some 48), .inl (.ex (.s 44) 1)⟩,
    ⟨none, (some 49), .inl (.ex (.s 44) 2)⟩,
    ⟨none, (some 12), .inl (.mv (.s 47))⟩,
    ⟨none, (some 13), .inl (.mv (.s 48))⟩,
    ⟨none, (some 14), .inl (.mv (.s 49))⟩])
  (.seq (.region [⟨none, (some 51), .inl (.mv (.s 8))⟩,
    ⟨none, (some 52), .inr (.fn 10 [(.s 51)])⟩,
    ⟨none, (some 50), .inl (.mv (.s 52))⟩,
    ⟨none, (some 53), .inl (.ex (.s 50) 0)⟩,
    ⟨none, (some 54), .inl (.ex (.s 50) 1)⟩,
    ⟨none, (some 55), .inl (.ex (.s 50) 2)⟩,
    ⟨none, (some 15), .inl (.mv (.s 53))⟩,
    ⟨none, (some 16), .inl (.mv (.s 54))⟩,
    ⟨none, (some 17), .inl (.mv (.s 55))⟩])
  (.seq (.seq (.region [⟨none, (some 56), .inl (.mv (.s 11))⟩,
    ⟨none, (some 57), .inl (.bin .neq (.s 56) (.c (.int .i64 0)))⟩,
    ⟨none, (some 58), .inl (.mv (.s 57))⟩,
    ⟨(some (58, false)), (some 59), .inl (.mv (.s 14))⟩,
    ⟨(some (58, false)), (some 60), .inl (.bin .neq (.s 59) (.c (.int .i64 0)))⟩,
    ⟨none, (some 61), .inl (.pick (.s 58) (.c (.bool true)) (.s 60))⟩,
    ⟨none, (some 62), .inl (.mv (.s 61))⟩,
    ⟨(some (62, false)), (some 63), .inl (.mv (.s 17))⟩,
    ⟨(some (62, false)), (some 64), .inl (.bin .neq (.s 63) (.c (.int .i64 0)))⟩,
    ⟨none, (some 65), .inl (.pick (.s 62) (.c (.bool true)) (.s 64))⟩])
  (.cond (.s 65) (.seq (.region [⟨none, (some 66), .inl (.mv (.s 7))⟩,
     ⟨none, (some 67), .inl (.mv (.s 66))⟩,
     ⟨(some (67, true)), (some 68), .inl (.mv (.s 11))⟩,
     ⟨(some (67, true)), (some 69), .inl (.bin .neq (.s 68) (.c (.int .i64 0)))⟩,
     ⟨(some (67, true)), (some 70), .inl (.mv (.s 69))⟩,
     ⟨(some (70, false)), (some 71), .inl (.mv (.s 14))⟩,
     ⟨(some (70, false)), (some 72), .inl (.bin .neq (.s 71) (.c (.int .i64 0)))⟩,
     ⟨(some (67, true)), (some 73), .inl (.pick (.s 70) (.c (.bool true)) (.s 72))⟩,
     ⟨(some (67, true)), (some 74), .inl (.mv (.s 73))⟩,
     ⟨(some (74, false)), (some 75), .inl (.mv (.s 17))⟩,
     ⟨(some (74, false)), (some 76), .inl (.bin .eql (.s 75) (.c (.int .i64 2)))⟩,
     ⟨(some (74, false)), (some 77), .inl (.mv (.s 76))⟩,
     ⟨(some (77, true)), (some 78), .inl (.mv (.s 10))⟩,
     ⟨(some (77, true)), (some 79), .inl (.mv (.s 13))⟩,
     ⟨(some (77, true)), (some 80), .inl (.bin .add (.s 78) (.s 79))⟩,
     ⟨(some (77, true)), (some 81), .inl (.bin .gtr (.s 80) (.c (.int .i64 100000)))⟩,
     ⟨(some (74, false)), (some 82), .inl (.pick (.s 77) (.s 81) (.c (.bool false)))⟩,
     ⟨(some (67, true)), (some 83), .inl (.pick (.s 74) (.c (.bool true)) (.s 82))⟩,
     ⟨none, (some 84), .inl (.pick (.s 67) (.s 83) (.c (.bool false)))⟩,
     ⟨none, (some 6), .inl (.mv (.s 84))⟩])
   (.ret))
  (.skip)))
  (.seq (.region [⟨none, (some 86), .inl (.mv (.s 0))⟩,
    ⟨none, (some 87), .inr (.fn 11 [(.s 86)])⟩,
    ⟨none, (some 85), .inl (.mv (.s 87))⟩,
    ⟨none, (some 88), .inl (.ex (.s 85) 0)⟩,
    ⟨none, (some 89), .inl (.ex (.s 85) 1)⟩,
    ⟨none, (some 18), .inl (.mv (.s 88))⟩,
    ⟨none, (some 19), .inl (.mv (.s 89))⟩])
  (.seq (.region [⟨none, (some 91), .inl (.mv (.s 1))⟩,
    ⟨none, (some 92), .inr (.fn 11 [(.s 91)])⟩,
    ⟨none, (some 90), .inl (.mv (.s 92))⟩,
    ⟨none, (some 93), .inl (.ex (.s 90) 0)⟩,
    ⟨none, (some 94), .inl (.ex (.s 90) 1)⟩,
    ⟨none, (some 20), .inl (.mv (.s 93))⟩,
    ⟨none, (some 21), .inl (.mv (.s 94))⟩])
  (.seq (.region [⟨none, (some 96), .inl (.mv (.s 8))⟩,
    ⟨none, (some 97), .inr (.fn 11 [(.s 96)])⟩,
    ⟨none, (some 95), .inl (.mv (.s 97))⟩,
    ⟨none, (some 98), .inl (.ex (.s 95) 0)⟩,
    ⟨none, (some 99), .inl (.ex (.s 95) 1)⟩,
    ⟨none, (some 22), .inl (.mv (.s 98))⟩,
    ⟨none, (some 23), .inl (.mv (.s 99))⟩])
  (.seq (.seq (.region [⟨none, (some 100), .inl (.mv (.s 15))⟩,
    ⟨none, (some 101), .inl (.mv (.s 9))⟩,
    ⟨none, (some 102), .inl (.mv (.s 12))⟩,
    ⟨none, (some 103), .inl (.bin .add (.s 101) (.s 102))⟩,
    ⟨none, (some 104), .inl (.bin .neq (.s 100) (.s 103))⟩,
    ⟨none, (some 105), .inl (.mv (.s 104))⟩,
    ⟨(some (105, false)), (some 106), .inl (.mv (.s 16))⟩,
    ⟨(some (105, false)), (some 107), .inl (.mv (.s 10))⟩,
    ⟨(some (105, false)), (some 108), .inl (.mv (.s 13))⟩,
    ⟨(some (105, false)), (some 109), .inl (.bin .add (.s 107) (.s 108))⟩,
    ⟨(some (105, false)), (some 110), .inl (.bin .neq (.s 106) (.s 109))⟩,
    ⟨none, (some 111), .inl (.pick (.s 105) (.c (.bool true)) (.s 110))⟩,
    ⟨none, (some 112), .inl (.mv (.s 111))⟩,
    ⟨(some (112, false)), (some 113), .inl (.mv (.s 23))⟩,
    ⟨(some (112, false)), (some 114), .inl (.bin .eql (.s 113) (.c (.int .i64 0)))⟩,
    ⟨(some (112, false)), (some 115), .inl (.mv (.s 19))⟩,
    ⟨(some (112, false)), (some 116), .inl (.bin .eql (.s 115) (.c (.int .i64 0)))⟩,
    ⟨(some (112, false)), (some 117), .inl (.mv (.s 116))⟩,
    ⟨(some (117, true)), (some 118), .inl (.mv (.s 21))⟩,
    ⟨(some (117, true)), (some 119), .inl (.bin .eql (.s 118) (.c (.int .i64 0)))⟩,
    ⟨(some (112, false)), (some 120), .inl (.pick (.s 117) (.s 119) (.c (.bool false)))⟩,
    ⟨(some (112, false)), (some 121), .inl (.eq true .bool (.s 114) (.s 120))⟩,
    ⟨none, (some 122), .inl (.pick (.s 112) (.c (.bool true)) (.s 121))⟩,
    ⟨none, (some 123), .inl (.mv (.s 122))⟩,
    ⟨(some (123, false)), (some 124), .inl (.mv (.s 23))⟩,
    ⟨(some (123, false)), (some 125), .inl (.bin .eql (.s 124) (.c (.int .i64 0)))⟩,
    ⟨(some (123, false)), (some 126), .inl (.mv (.s 125))⟩,
    ⟨(some (126, true)), (some 127), .inl (.mv (.s 22))⟩,
    ⟨(some (126, true)), (some 128), .inl (.mv (.s 18))⟩,
    ⟨(some (126, true)), (some 129), .inl (.mv (.s 20))⟩,
    ⟨(some (126, true)), (some 130), .inl (.bin .add (.s 128) (.s 129))⟩,
    ⟨(some (126, true)), (some 131), .inl (.bin .neq (.s 127) (.s 130))⟩,
    ⟨(some (123, false)), (some 132), .inl (.pick (.s 126) (.s 131) (.c (.bool false)))⟩,
    ⟨none, (some 133), .inl (.pick (.s 123) (.c (.bool true)) (.s 132))⟩])
  (.cond (.s 133) (.seq (.region [⟨none, (some 6), .inl (.mv (.c (.bool false)))⟩])
   (.ret))
  (.skip)))
  (.seq (.region [⟨none, (some 135), .inl (.mv (.s 0))⟩,
    ⟨none, (some 136), .inl (.mv (.s 2))⟩,
    ⟨none, (some 137), .inr (.fn 12 [(.s 135), (.s 136)])⟩,
    ⟨none, (some 134), .inl (.mv (.s 137))⟩,
    ⟨none, (some 138), .inl (.ex (.s 134) 0)⟩,
    ⟨none, (some 139), .inl (.ex (.s 134) 1)⟩,
    ⟨none, (some 24), .inl (.mv (.s 138))⟩,
    ⟨none, (some 25), .inl (.mv (.s 139))⟩])
  (.seq (.region [⟨none, (some 141), .inl (.mv (.s 1))⟩,
    ⟨none, (some 142), .inl (.mv (.s 2))⟩,
    ⟨none, (some 143), .inr (.fn 12 [(.s 141), (.s 142)])⟩,
    ⟨none, (some 140), .inl (.mv (.s 143))⟩,
    ⟨none, (some 144), .inl (.ex (.s 140) 0)⟩,
    ⟨none, (some 145), .inl (.ex (.s 140) 1)⟩,
    ⟨none, (some 26), .inl (.mv (.s 144))⟩,
    ⟨none, (some 27), .inl (.mv (.s 145))⟩])
  (.seq (.region [⟨none, (some 146), .inl (.mv (.s 7))⟩,
    ⟨none, (some 147), .inl (.mv (.s 146))⟩,
    ⟨(some (147, true)), (some 148), .inl (.mv (.s 25))⟩,
    ⟨(some (147, true)), (some 149), .inl (.bin .eql (.s 148) (.c (.int .i64 0)))⟩,
    ⟨none, (some 150), .inl (.pick (.s 147) (.s 149) (.c (.bool false)))⟩,
    ⟨none, (some 151), .inl (.mv (.s 150))⟩,
    ⟨(some (151, true)), (some 152), .inl (.mv (.s 27))⟩,
    ⟨(some (151, true)), (some 153), .inl (.bin .eql (.s 152) (.c (.int .i64 0)))⟩,
    ⟨none, (some 154), .inl (.pick (.s 151) (.s 153) (.c (.bool false)))⟩,
    ⟨none, (some 155), .inl (.mv (.s 154))⟩,
    ⟨(some (155, true)), (some 156), .inl (.mv (.s 8))⟩,
    ⟨(some (155, true)), (some 157), .inl (.bs 3 1 0 [(.int .i64 0)] [])⟩,
    ⟨(some (155, true)), (some 158), .inl (.mv (.s 24))⟩,
    ⟨(some (155, true)), (some 159), .inl (.app 3 1 8 (.s 157) (.s 158))⟩,
    ⟨(some (155, true)), (some 160), .inl (.mv (.s 26))⟩,
    ⟨(some (155, true)), (some 161), .inl (.app 3 1 8 (.s 159) (.s 160))⟩,
    ⟨(some (155, true)), (some 162), .inr (.fn 13 [(.s 156), (.s 161)])⟩,
    ⟨none, (some 163), .inl (.pick (.s 155) (.s 162) (.c (.bool false)))⟩,
    ⟨none, (some 6), .inl (.mv (.s 163))⟩])
  (.ret))))))))))))))))
/-- gyttja/gyttjalaw01.SheetBetween -/
def k4 : Cd :=
  .seq (.region [⟨none, (some 2), .inl (.box 36 4 (.s 0))⟩,
    ⟨none, (some 3), .inl (.box 37 3 (.s 1))⟩,
    ⟨none, (some 4), .inl (.mv (.c (.bool false)))⟩])
  (.seq (.region [⟨none, (some 20), .inr (.fn 8 [])⟩,
    ⟨none, (some 5), .inl (.mv (.s 20))⟩])
  (.seq (.region [⟨none, (some 21), .inl (.ld true 4 (.s 2))⟩,
    ⟨none, (some 22), .inr (.fn 14 [(.s 21)])⟩,
    ⟨none, none, .inl (.st 4 (.s 2) (.s 22))⟩])
  (.seq (.region [⟨none, (some 23), .inl (.ld true 4 (.s 2))⟩,
    ⟨none, (some 24), .inr (.fn 15 [(.s 23)])⟩,
    ⟨none, (some 6), .inl (.mv (.s 24))⟩])
  (.seq (.seq (.region [⟨none, (some 25), .inl (.mv (.s 6))⟩,
    ⟨none, (some 26), .inl (.len (.s 25))⟩,
    ⟨none, (some 27), .inl (.bin .eql (.s 26) (.c (.int .i64 0)))⟩])
  (.cond (.s 27) (.seq (.region [⟨none, (some 29), .inl (.ld true 4 (.s 2))⟩,
     ⟨none, (some 30), .inr (.fn 16 [(.s 29), (.c (.int .i64 1)), (.c (.int .i64 1))])⟩,
     ⟨none, (some 28), .inl (.mv (.s 30))⟩,
     ⟨none, (some 31), .inl (.ex (.s 28) 0)⟩,
     ⟨none, (some 32), .inl (.ex (.s 28) 1)⟩,
     ⟨none, (some 7), .inl (.alloc 41 [(.int .i64 0), (.int .i64 0), (.int .i64 0), (.int .i64 0)])⟩,
     ⟨none, none, .inl (.st 4 (.s 7) (.s 31))⟩,
     ⟨none, (some 8), .inl (.mv (.s 32))⟩])
   (.seq (.region [⟨none, (some 33), .inl (.mv (.s 5))⟩,
     ⟨none, (some 34), .inl (.mv (.s 33))⟩,
     ⟨(some (34, true)), (some 35), .inl (.mv (.s 8))⟩,
     ⟨(some (34, true)), (some 36), .inl (.bin .neq (.s 35) (.c (.int .i64 0)))⟩,
     ⟨none, (some 37), .inl (.pick (.s 34) (.s 36) (.c (.bool false)))⟩,
     ⟨none, (some 4), .inl (.mv (.s 37))⟩])
   (.ret)))
  (.skip)))
  (.seq (.region [⟨none, (some 38), .inl (.iaa 3 1 (.s 3) (.c (.int .i64 0)))⟩,
    ⟨none, (some 39), .inl (.ld false 1 (.s 38))⟩,
    ⟨none, (some 40), .inl (.mv (.s 6))⟩,
    ⟨none, (some 41), .inl (.len (.s 40))⟩,
    ⟨none, (some 42), .inr (.fn 17 [(.s 39), (.s 41)])⟩,
    ⟨none, (some 9), .inl (.mv (.s 42))⟩])
  (.seq (.region [⟨none, (some 43), .inl (.mv (.s 9))⟩,
    ⟨none, (some 44), .inl (.iaa 3 1 (.s 3) (.c (.int .i64 1)))⟩,
    ⟨none, (some 45), .inl (.ld false 1 (.s 44))⟩,
    ⟨none, (some 46), .inl (.mv (.s 6))⟩,
    ⟨none, (some 47), .inl (.len (.s 46))⟩,
    ⟨none, (some 48), .inl (.mv (.s 9))⟩,
    ⟨none, (some 49), .inl (.bin .sub (.s 47) (.s 48))⟩,
    ⟨none, (some 50), .inr (.fn 17 [(.s 45), (.s 49)])⟩,
    ⟨none, (some 51), .inl (.bin .add (.s 43) (.s 50))⟩,
    ⟨none, (some 10), .inl (.mv (.s 51))⟩])
  (.seq (.region [⟨none, (some 52), .inl (.mv (.s 10))⟩,
    ⟨none, (some 53), .inl (.iaa 3 1 (.s 3) (.c (.int .i64 2)))⟩,
    ⟨none, (some 54), .inl (.ld false 1 (.s 53))⟩,
    ⟨none, (some 55), .inl (.mv (.s 6))⟩,
    ⟨none, (some 56), .inl (.len (.s 55))⟩,
    ⟨none, (some 57), .inl (.mv (.s 10))⟩,
    ⟨none, (some 58), .inl (.bin .sub (.s 56) (.s 57))⟩,
    ⟨none, (some 59), .inr (.fn 17 [(.s 54), (.s 58)])⟩,
    ⟨none, (some 60), .inl (.bin .add (.s 52) (.s 59))⟩,
    ⟨none, (some 11), .inl (.mv (.s 60))⟩])
  (.seq (.draw [⟨⟨none, (some 62), .inl (.ld true 4 (.s 2))⟩, (some []), [.fr 12], 0, false⟩,
    ⟨⟨none, (some 63), .inl (.mv (.s 6))⟩, (some []), [], 0, false⟩,
    ⟨⟨none, (some 64), .inl (.mv (.s 9))⟩, (some []), [], 0, false⟩,
    ⟨⟨none, (some 65), .inl (.ias 1 (.s 63) (.s 64))⟩, (some []), [], 6, false⟩,
    ⟨⟨none, (some 66), .inl (.ld false 1 (.s 65))⟩, (some []), [.fr 12], 14, false⟩,
    ⟨⟨none, (some 67), .inl (.mv (.s 6))⟩, (some []), [], 0, false⟩,
    ⟨⟨none, (some 68), .inl (.mv (.s 10))⟩, (some []), [], 0, false⟩,
    ⟨⟨none, (some 69), .inl (.ias 1 (.s 67) (.s 68))⟩, (some []), [], 96, false⟩,
    ⟨⟨none, (some 70), .inl (.ld false 1 (.s 69))⟩, (some []), [.fr 12], 224, false⟩,
    ⟨⟨none, (some 71), .inr (.fn 16 [(.s 62), (.s 66), (.s 70)])⟩, (some []), [.fr 12], 511, false⟩,
    ⟨⟨none, (some 61), .inl (.mv (.s 71))⟩, (some []), [], 1023, false⟩,
    ⟨⟨none, (some 72), .inl (.ex (.s 61) 0)⟩, (some []), [], 2047, false⟩,
    ⟨⟨none, (some 73), .inl (.ex (.s 61) 1)⟩, (some []), [], 2047, false⟩,
    ⟨⟨none, (some 12), .inl (.alloc 41 [(.int .i64 0), (.int .i64 0), (.int .i64 0), (.int .i64 0)])⟩, (some [.fr 12]), [], 0, false⟩,
    ⟨⟨none, none, .inl (.st 4 (.s 12) (.s 72))⟩, (some [.fr 12]), [], 12287, false⟩,
    ⟨⟨none, (some 13), .inl (.mv (.s 73))⟩, (some []), [], 32767, false⟩])
  (.seq (.draw [⟨⟨none, (some 75), .inl (.ld true 4 (.s 2))⟩, (some []), [.fr 14], 0, false⟩,
    ⟨⟨none, (some 76), .inl (.mv (.s 6))⟩, (some []), [], 0, false⟩,
    ⟨⟨none, (some 77), .inl (.mv (.s 10))⟩, (some []), [], 0, false⟩,
    ⟨⟨none, (some 78), .inl (.ias 1 (.s 76) (.s 77))⟩, (some []), [], 6, false⟩,
    ⟨⟨none, (some 79), .inl (.ld false 1 (.s 78))⟩, (some []), [.fr 14], 14, false⟩,
    ⟨⟨none, (some 80), .inl (.mv (.s 6))⟩, (some []), [], 0, false⟩,
    ⟨⟨none, (some 81), .inl (.mv (.s 11))⟩, (some []), [], 0, false⟩,
    ⟨⟨none, (some 82), .inl (.ias 1 (.s 80) (.s 81))⟩, (some []), [], 96, false⟩,
    ⟨⟨none, (some 83), .inl (.ld false 1 (.s 82))⟩, (some []), [.fr 14], 224, false⟩,
    ⟨⟨none, (some 84), .inr (.fn 16 [(.s 75), (.s 79), (.s 83)])⟩, (some []), [.fr 14], 511, false⟩,
    ⟨⟨none, (some 74), .inl (.mv (.s 84))⟩, (some []), [], 1023, false⟩,
    ⟨⟨none, (some 85), .inl (.ex (.s 74) 0)⟩, (some []), [], 2047, false⟩,
    ⟨⟨none, (some 86), .inl (.ex (.s 74) 1)⟩, (some []), [], 2047, false⟩,
    ⟨⟨none, (some 14), .inl (.alloc 41 [(.int .i64 0), (.int .i64 0), (.int .i64 0), (.int .i64 0)])⟩, (some [.fr 14]), [], 0, false⟩,
    ⟨⟨none, none, .inl (.st 4 (.s 14) (.s 85))⟩, (some [.fr 14]), [], 12287, false⟩,
    ⟨⟨none, (some 15), .inl (.mv (.s 86))⟩, (some []), [], 32767, false⟩])
  (.seq (.draw [⟨⟨none, (some 88), .inl (.ld true 4 (.s 2))⟩, (some []), [.fr 16], 0, false⟩,
    ⟨⟨none, (some 89), .inl (.mv (.s 6))⟩, (some []), [], 0, false⟩,
    ⟨⟨none, (some 90), .inl (.mv (.s 9))⟩, (some []), [], 0, false⟩,
    ⟨⟨none, (some 91), .inl (.ias 1 (.s 89) (.s 90))⟩, (some []), [], 6, false⟩,
    ⟨⟨none, (some 92), .inl (.ld false 1 (.s 91))⟩, (some []), [.fr 16], 14, false⟩,
    ⟨⟨none, (some 93), .inl (.mv (.s 6))⟩, (some []), [], 0, false⟩,
    ⟨⟨none, (some 94), .inl (.mv (.s 11))⟩, (some []), [], 0, false⟩,
    ⟨⟨none, (some 95), .inl (.ias 1 (.s 93) (.s 94))⟩, (some []), [], 96, false⟩,
    ⟨⟨none, (some 96), .inl (.ld false 1 (.s 95))⟩, (some []), [.fr 16], 224, false⟩,
    ⟨⟨none, (some 97), .inr (.fn 16 [(.s 88), (.s 92), (.s 96)])⟩, (some []), [.fr 16], 511, false⟩,
    ⟨⟨none, (some 87), .inl (.mv (.s 97))⟩, (some []), [], 1023, false⟩,
    ⟨⟨none, (some 98), .inl (.ex (.s 87) 0)⟩, (some []), [], 2047, false⟩,
    ⟨⟨none, (some 99), .inl (.ex (.s 87) 1)⟩, (some []), [], 2047, false⟩,
    ⟨⟨none, (some 16), .inl (.alloc 41 [(.int .i64 0), (.int .i64 0), (.int .i64 0), (.int .i64 0)])⟩, (some [.fr 16]), [], 0, false⟩,
    ⟨⟨none, none, .inl (.st 4 (.s 16) (.s 98))⟩, (some [.fr 16]), [], 12287, false⟩,
    ⟨⟨none, (some 17), .inl (.mv (.s 99))⟩, (some []), [], 32767, false⟩])
  (.seq (.draw [⟨⟨none, (some 101), .inl (.ld true 4 (.s 2))⟩, (some []), [.fr 18], 0, false⟩,
    ⟨⟨none, (some 102), .inl (.mv (.s 6))⟩, (some []), [], 0, false⟩,
    ⟨⟨none, (some 103), .inl (.mv (.s 11))⟩, (some []), [], 0, false⟩,
    ⟨⟨none, (some 104), .inl (.ias 1 (.s 102) (.s 103))⟩, (some []), [], 6, false⟩,
    ⟨⟨none, (some 105), .inl (.ld false 1 (.s 104))⟩, (some []), [.fr 18], 14, false⟩,
    ⟨⟨none, (some 106), .inl (.mv (.s 6))⟩, (some []), [], 0, false⟩,
    ⟨⟨none, (some 107), .inl (.mv (.s 9))⟩, (some []), [], 0, false⟩,
    ⟨⟨none, (some 108), .inl (.ias 1 (.s 106) (.s 107))⟩, (some []), [], 96, false⟩,
    ⟨⟨none, (some 109), .inl (.ld false 1 (.s 108))⟩, (some []), [.fr 18], 224, false⟩,
    ⟨⟨none, (some 110), .inr (.fn 16 [(.s 101), (.s 105), (.s 109)])⟩, (some []), [.fr 18], 511, false⟩,
    ⟨⟨none, (some 100), .inl (.mv (.s 110))⟩, (some []), [], 1023, false⟩,
    ⟨⟨none, (some 111), .inl (.ex (.s 100) 0)⟩, (some []), [], 2047, false⟩,
    ⟨⟨none, (some 112), .inl (.ex (.s 100) 1)⟩, (some []), [], 2047, false⟩,
    ⟨⟨none, (some 18), .inl (.alloc 41 [(.int .i64 0), (.int .i64 0), (.int .i64 0), (.int .i64 0)])⟩, (some [.fr 18]), [], 0, false⟩,
    ⟨⟨none, none, .inl (.st 4 (.s 18) (.s 111))⟩, (some [.fr 18]), [], 12287, false⟩,
    ⟨⟨none, (some 19), .inl (.mv (.s 112))⟩, (some []), [], 32767, false⟩])
  (.seq (.seq (.region [⟨none, (some 113), .inl (.mv (.s 13))⟩,
    ⟨none, (some 114), .inl (.bin .neq (.s 113) (.c (.int .i64 0)))⟩,
    ⟨none, (some 115), .inl (.mv (.s 114))⟩,
    ⟨(some (115, false)), (some 116), .inl (.mv (.s 15))⟩,
    ⟨(some (115, false)), (some 117), .inl (.bin .neq (.s 116) (.c (.int .i64 0)))⟩,
    ⟨none, (some 118), .inl (.pick (.s 115) (.c (.bool true)) (.s 117))⟩,
    ⟨none, (some 119), .inl (.mv (.s 118))⟩,
    ⟨(some (119, false)), (some 120), .inl (.mv (.s 17))⟩,
    ⟨(some (119, false)), (some 121), .inl (.bin .neq (.s 120) (.c (.int .i64 0)))⟩,
    ⟨none, (some 122), .inl (.pick (.s 119) (.c (.bool true)) (.s 121))⟩,
    ⟨none, (some 123), .inl (.mv (.s 122))⟩,
    ⟨(some (123, false)), (some 124), .inl (.mv (.s 19))⟩,
    ⟨(some (123, false)), (some 125), .inl (.bin .neq (.s 124) (.c (.int .i64 0)))⟩,
    ⟨none, (some 126), .inl (.pick (.s 123) (.c (.bool true)) (.s 125))⟩])
  (.cond (.s 126) (.seq (.region [⟨none, (some 4), .inl (.mv (.c (.bool false)))⟩])
   (.ret))
  (.skip)))
  (.seq (.draw [⟨⟨none, (some 127), .inl (.mv (.s 5))⟩, (some []), [], 0, false⟩,
    ⟨⟨none, (some 128), .inl (.mv (.s 127))⟩, (some []), [], 1, false⟩,
    ⟨⟨(some (128, true)), (some 129), .inl (.fa (.s 16) 2)⟩, (some []), [], 3, false⟩,
    ⟨⟨(some (128, true)), (some 130), .inl (.ld false 1 (.s 129))⟩, (some []), [], 7, false⟩,
    ⟨⟨(some (128, true)), (some 131), .inl (.fa (.s 12) 2)⟩, (some []), [], 3, false⟩,
    ⟨⟨(some (128, true)), (some 132), .inl (.ld false 1 (.s 131))⟩, (some []), [], 19, false⟩,
    ⟨⟨(some (128, true)), (some 133), .inl (.fa (.s 14) 2)⟩, (some []), [], 3, false⟩,
    ⟨⟨(some (128, true)), (some 134), .inl (.ld false 1 (.s 133))⟩, (some []), [], 67, false⟩,
    ⟨⟨(some (128, true)), (some 135), .inl (.bin .add (.s 132) (.s 134))⟩, (some []), [], 243, false⟩,
    ⟨⟨(some (128, true)), (some 136), .inl (.bin .eql (.s 130) (.s 135))⟩, (some []), [], 511, false⟩,
    ⟨⟨none, (some 137), .inl (.pick (.s 128) (.s 136) (.c (.bool false)))⟩, (some []), [], 1023, false⟩,
    ⟨⟨none, (some 138), .inl (.mv (.s 137))⟩, (some []), [], 2047, false⟩,
    ⟨⟨(some (138, true)), (some 139), .inl (.fa (.s 16) 3)⟩, (some []), [], 4095, false⟩,
    ⟨⟨(some (138, true)), (some 140), .inl (.ld false 1 (.s 139))⟩, (some []), [], 8191, false⟩,
    ⟨⟨(some (138, true)), (some 141), .inl (.fa (.s 12) 3)⟩, (some []), [], 4095, false⟩,
    ⟨⟨(some (138, true)), (some 142), .inl (.ld false 1 (.s 141))⟩, (some []), [], 20479, false⟩,
    ⟨⟨(some (138, true)), (some 143), .inl (.fa (.s 14) 3)⟩, (some []), [], 4095, false⟩,
    ⟨⟨(some (138, true)), (some 144), .inl (.ld false 1 (.s 143))⟩, (some []), [], 69631, false⟩,
    ⟨⟨(some (138, true)), (some 145), .inl (.bin .add (.s 142) (.s 144))⟩, (some []), [], 249855, false⟩,
    ⟨⟨(some (138, true)), (some 146), .inl (.bin .eql (.s 140) (.s 145))⟩, (some []), [], 524287, false⟩,
    ⟨⟨none, (some 147), .inl (.pick (.s 138) (.s 146) (.c (.bool false)))⟩, (some []), [], 1048575, false⟩,
    ⟨⟨none, (some 148), .inl (.mv (.s 147))⟩, (some []), [], 2097151, false⟩,
    ⟨⟨(some (148, true)), (some 149), .inl (.fa (.s 18) 2)⟩, (some []), [], 4194303, false⟩,
    ⟨⟨(some (148, true)), (some 150), .inl (.ld false 1 (.s 149))⟩, (some []), [], 8388607, false⟩,
    ⟨⟨(some (148, true)), (some 151), .inl (.fa (.s 16) 3)⟩, (some []), [], 4194303, false⟩,
    ⟨⟨(some (148, true)), (some 152), .inl (.ld false 1 (.s 151))⟩, (some []), [], 20971519, false⟩,
    ⟨⟨(some (148, true)), (some 153), .inl (.neg (.s 152))⟩, (some []), [], 54525951, false⟩,
    ⟨⟨(some (148, true)), (some 154), .inl (.bin .eql (.s 150) (.s 153))⟩, (some []), [], 134217727, false⟩,
    ⟨⟨none, (some 155), .inl (.pick (.s 148) (.s 154) (.c (.bool false)))⟩, (some []), [], 268435455, false⟩,
    ⟨⟨none, (some 156), .inl (.mv (.s 155))⟩, (some []), [], 536870911, false⟩,
    ⟨⟨(some (156, true)), (some 157), .inl (.fa (.s 18) 3)⟩, (some []), [], 1073741823, false⟩,
    ⟨⟨(some (156, true)), (some 158), .inl (.ld false 1 (.s 157))⟩, (some []), [], 2147483647, false⟩,
    ⟨⟨(some (156, true)), (some 159), .inl (.fa (.s 16) 2)⟩, (some []), [], 1073741823, false⟩,
    ⟨⟨(some (156, true)), (some 160), .inl (.ld false 1 (.s 159))⟩, (some []), [], 5368709119, false⟩,
    ⟨⟨(some (156, true)), (some 161), .inl (.neg (.s 160))⟩, (some []), [], 13958643711, false⟩,
    ⟨⟨(some (156, true)), (some 162), .inl (.bin .eql (.s 158) (.s 161))⟩, (some []), [], 34359738367, false⟩,
    ⟨⟨none, (some 163), .inl (.pick (.s 156) (.s 162) (.c (.bool false)))⟩, (some []), [], 68719476735, false⟩,
    ⟨⟨none, (some 164), .inl (.mv (.s 163))⟩, (some []), [], 137438953471, false⟩,
    ⟨⟨(some (164, true)), (some 165), .inl (.fa (.s 16) 0)⟩, (some []), [], 274877906943, false⟩,
    ⟨⟨(some (164, true)), (some 166), .inl (.ld false 1 (.s 165))⟩, (some []), [], 549755813887, false⟩,
    ⟨⟨(some (164, true)), (some 167), .inl (.mv (.s 6))⟩, (some []), [], 274877906943, false⟩,
    ⟨⟨(some (164, true)), (some 168), .inl (.mv (.s 9))⟩, (some []), [], 274877906943, false⟩,
    ⟨⟨(some (164, true)), (some 169), .inl (.ias 1 (.s 167) (.s 168))⟩, (some []), [], 3573412790271, false⟩,
    ⟨⟨(some (164, true)), (some 170), .inl (.ld false 1 (.s 169))⟩, (some []), [], 7971459301375, false⟩,
    ⟨⟨(some (164, true)), (some 171), .inl (.bin .eql (.s 166) (.s 170))⟩, (some []), [], 17592186044415, false⟩,
    ⟨⟨none, (some 172), .inl (.pick (.s 164) (.s 171) (.c (.bool false)))⟩, (some []), [], 35184372088831, false⟩,
    ⟨⟨none, (some 173), .inl (.mv (.s 172))⟩, (some []), [], 70368744177663, false⟩,
    ⟨⟨(some (173, true)), (some 174), .inl (.fa (.s 16) 1)⟩, (some []), [], 140737488355327, false⟩,
    ⟨⟨(some (173, true)), (some 175), .inl (.ld false 1 (.s 174))⟩, (some []), [], 281474976710655, false⟩,
    ⟨⟨(some (173, true)), (some 176), .inl (.mv (.s 6))⟩, (some []), [], 140737488355327, false⟩,
    ⟨⟨(some (173, true)), (some 177), .inl (.mv (.s 11))⟩, (some []), [], 140737488355327, false⟩,
    ⟨⟨(some (173, true)), (some 178), .inl (.ias 1 (.s 176) (.s 177))⟩, (some []), [], 1829587348619263, false⟩,
    ⟨⟨(some (173, true)), (some 179), .inl (.ld false 1 (.s 178))⟩, (some []), [], 4081387162304511, false⟩,
    ⟨⟨(some (173, true)), (some 180), .inl (.bin .eql (.s 175) (.s 179))⟩, (some []), [], 9007199254740991, false⟩,
    ⟨⟨none, (some 181), .inl (.pick (.s 173) (.s 180) (.c (.bool false)))⟩, (some []), [], 18014398509481983, false⟩,
    ⟨⟨none, (some 182), .inl (.mv (.s 181))⟩, (some []), [], 36028797018963967, false⟩,
    ⟨⟨(some (182, true)), (some 183), .inl (.fa (.s 18) 0)⟩, (some []), [], 72057594037927935, false⟩,
    ⟨⟨(some (182, true)), (some 184), .inl (.ld false 1 (.s 183))⟩, (some []), [], 144115188075855871, false⟩,
    ⟨⟨(some (182, true)), (some 185), .inl (.mv (.s 6))⟩, (some []), [], 72057594037927935, false⟩,
    ⟨⟨(some (182, true)), (some 186), .inl (.mv (.s 11))⟩, (some []), [], 72057594037927935, false⟩,
    ⟨⟨(some (182, true)), (some 187), .inl (.ias 1 (.s 185) (.s 186))⟩, (some []), [], 936748722493063167, false⟩,
    ⟨⟨(some (182, true)), (some 188), .inl (.ld false 1 (.s 187))⟩, (some []), [], 2089670227099910143, false⟩,
    ⟨⟨(some (182, true)), (some 189), .inl (.bin .eql (.s 184) (.s 188))⟩, (some []), [], 4611686018427387903, false⟩,
    ⟨⟨none, (some 190), .inl (.pick (.s 182) (.s 189) (.c (.bool false)))⟩, (some []), [], 9223372036854775807, false⟩,
    ⟨⟨none, (some 191), .inl (.mv (.s 190))⟩, (some []), [], 18446744073709551615, false⟩,
    ⟨⟨(some (191, true)), (some 192), .inl (.fa (.s 18) 1)⟩, (some []), [], 36893488147419103231, false⟩,
    ⟨⟨(some (191, true)), (some 193), .inl (.ld false 1 (.s 192))⟩, (some []), [], 73786976294838206463, false⟩,
    ⟨⟨(some (191, true)), (some 194), .inl (.mv (.s 6))⟩, (some []), [], 36893488147419103231, false⟩,
    ⟨⟨(some (191, true)), (some 195), .inl (.mv (.s 9))⟩, (some []), [], 36893488147419103231, false⟩,
    ⟨⟨(some (191, true)), (some 196), .inl (.ias 1 (.s 194) (.s 195))⟩, (some []), [], 479615345916448342015, false⟩,
    ⟨⟨(some (191, true)), (some 197), .inl (.ld false 1 (.s 196))⟩, (some []), [], 1069911156275153993727, false⟩,
    ⟨⟨(some (191, true)), (some 198), .inl (.bin .eql (.s 193) (.s 197))⟩, (some []), [], 2361183241434822606847, false⟩,
    ⟨⟨none, (some 199), .inl (.pick (.s 191) (.s 198) (.c (.bool false)))⟩, (some []), [], 4722366482869645213695, false⟩,
    ⟨⟨none, (some 4), .inl (.mv (.s 199))⟩, (some []), [], 9444732965739290427391, false⟩])
  (.ret))))))))))))))
/-- gyttja/gyttjalaw01.SheetParts -/
def k6 : Cd :=
  .seq (.region [⟨none, (some 2), .inl (.box 36 4 (.s 0))⟩,
    ⟨none, (some 3), .inl (.box 46 2 (.s 1))⟩,
    ⟨none, (some 4), .inl (.mv (.c (.bool false)))⟩])
  (.seq (.region [⟨none, (some 14), .inr (.fn 8 [])⟩,
    ⟨none, (some 5), .inl (.mv (.s 14))⟩])
  (.seq (.region [⟨none, (some 15), .inl (.ld true 4 (.s 2))⟩,
    ⟨none, (some 16), .inr (.fn 14 [(.s 15)])⟩,
    ⟨none, none, .inl (.st 4 (.s 2) (.s 16))⟩])
  (.seq (.region [⟨none, (some 17), .inl (.ld true 4 (.s 2))⟩,
    ⟨none, (some 18), .inr (.fn 15 [(.s 17)])⟩,
    ⟨none, (some 6), .inl (.mv (.s 18))⟩])
  (.seq (.seq (.region [⟨none, (some 19), .inl (.mv (.s 6))⟩,
    ⟨none, (some 20), .inl (.len (.s 19))⟩,
    ⟨none, (some 21), .inl (.bin .eql (.s 20) (.c (.int .i64 0)))⟩])
  (.cond (.s 21) (.seq (.region [⟨none, (some 22), .inl (.mv (.s 5))⟩,
     ⟨none, (some 4), .inl (.mv (.s 22))⟩])
   (.ret))
  (.skip)))
  (.seq (.region [⟨none, (some 23), .inl (.iaa 2 1 (.s 3) (.c (.int .i64 0)))⟩,
    ⟨none, (some 24), .inl (.ld false 1 (.s 23))⟩,
    ⟨none, (some 25), .inl (.mv (.s 6))⟩,
    ⟨none, (some 26), .inl (.len (.s 25))⟩,
    ⟨none, (some 27), .inr (.fn 17 [(.s 24), (.s 26)])⟩,
    ⟨none, (some 7), .inl (.mv (.s 27))⟩])
  (.seq (.region [⟨none, (some 28), .inl (.mv (.s 7))⟩,
    ⟨none, (some 29), .inl (.iaa 2 1 (.s 3) (.c (.int .i64 1)))⟩,
    ⟨none, (some 30), .inl (.ld false 1 (.s 29))⟩,
    ⟨none, (some 31), .inl (.mv (.s 6))⟩,
    ⟨none, (some 32), .inl (.len (.s 31))⟩,
    ⟨none, (some 33), .inl (.mv (.s 7))⟩,
    ⟨none, (some 34), .inl (.bin .sub (.s 32) (.s 33))⟩,
    ⟨none, (some 35), .inr (.fn 17 [(.s 30), (.s 34)])⟩,
    ⟨none, (some 36), .inl (.bin .add (.s 28) (.s 35))⟩,
    ⟨none, (some 8), .inl (.mv (.s 36))⟩])
  (.seq (.draw [⟨⟨none, (some 38), .inl (.ld true 4 (.s 2))⟩, (some []), [.fr 9], 0, false⟩,
    ⟨⟨none, (some 39), .inl (.mv (.s 6))⟩, (some []), [], 0, false⟩,
    ⟨⟨none, (some 40), .inl (.mv (.s 7))⟩, (some []), [], 0, false⟩,
    ⟨⟨none, (some 41), .inl (.ias 1 (.s 39) (.s 40))⟩, (some []), [], 6, false⟩,
    ⟨⟨none, (some 42), .inl (.ld false 1 (.s 41))⟩, (some []), [.fr 9], 14, false⟩,
    ⟨⟨none, (some 43), .inl (.mv (.s 6))⟩, (some []), [], 0, false⟩,
    ⟨⟨none, (some 44), .inl (.mv (.s 8))⟩, (some []), [], 0, false⟩,
    ⟨⟨none, (some 45), .inl (.ias 1 (.s 43) (.s 44))⟩, (some []), [], 96, false⟩,
    ⟨⟨none, (some 46), .inl (.ld false 1 (.s 45))⟩, (some []), [.fr 9], 224, false⟩,
    ⟨⟨none, (some 47), .inr (.fn 22 [(.s 38), (.s 42), (.s 46)])⟩, (some []), [.fr 9], 511, false⟩,
    ⟨⟨none, (some 37), .inl (.mv (.s 47))⟩, (some []), [], 1023, false⟩,
    ⟨⟨none, (some 48), .inl (.ex (.s 37) 0)⟩, (some []), [], 2047, false⟩,
    ⟨⟨none, (some 49), .inl (.ex (.s 37) 1)⟩, (some []), [], 2047, false⟩,
    ⟨⟨none, (some 9), .inl (.alloc 36 [(.int .i64 0), (.int .i64 0), (.int .i64 0), (.slice none 0 0)])⟩, (some [.fr 9]), [], 0, false⟩,
    ⟨⟨none, none, .inl (.st 4 (.s 9) (.s 48))⟩, (some [.fr 9]), [], 12287, false⟩,
    ⟨⟨none, (some 10), .inl (.mv (.s 49))⟩, (some []), [], 32767, false⟩])
  (.seq (.seq (.region [⟨none, (some 50), .inl (.mv (.s 10))⟩,
    ⟨none, (some 51), .inl (.bin .neq (.s 50) (.c (.int .i64 0)))⟩,
    ⟨none, (some 52), .inl (.mv (.s 51))⟩,
    ⟨(some (52, false)), (some 53), .inl (.ld true 4 (.s 9))⟩,
    ⟨(some (52, false)), (some 54), .inr (.fn 23 [(.s 53)])⟩,
    ⟨(some (52, false)), (some 55), .inl (.bin .neq (.s 54) (.c (.int .i64 0)))⟩,
    ⟨none, (some 56), .inl (.pick (.s 52) (.c (.bool true)) (.s 55))⟩])
  (.cond (.s 56) (.seq (.region [⟨none, (some 4), .inl (.mv (.c (.bool false)))⟩])
   (.ret))
  (.skip)))
  (.seq (.draw [⟨⟨none, (some 57), .inl (.ld true 4 (.s 9))⟩, (some []), [], 0, false⟩,
    ⟨⟨none, (some 58), .inr (.fn 15 [(.s 57)])⟩, (some []), [], 1, false⟩,
    ⟨⟨none, (some 59), .inl (.mv (.s 6))⟩, (some []), [], 0, false⟩,
    ⟨⟨none, (some 60), .inl (.mv (.s 7))⟩, (some []), [], 0, false⟩,
    ⟨⟨none, (some 61), .inl (.mv (.s 8))⟩, (some []), [], 0, false⟩,
    ⟨⟨none, (some 62), .inl (.bin .add (.s 61) (.c (.int .i64 1)))⟩, (some []), [], 16, false⟩,
    ⟨⟨none, (some 63), .inl (.slc 1 (.s 59) (some (.s 60)) (some (.s 62)) none)⟩, (some []), [], 60, false⟩,
    ⟨⟨none, (some 64), .inr (.fn 24 [(.s 58), (.s 63)])⟩, (some []), [], 127, false⟩,
    ⟨⟨none, (some 11), .inl (.mv (.s 64))⟩, (some []), [], 255, false⟩])
  (.seq (.region [⟨none, (some 65), .inl (.ld true 4 (.s 2))⟩,
    ⟨none, (some 66), .inr (.fn 25 [(.s 65)])⟩,
    ⟨none, (some 12), .inl (.mv (.s 66))⟩])
  (.seq (.seq (.region [⟨none, (some 67), .inl (.mv (.s 12))⟩,
    ⟨none, (some 68), .inl (.len (.s 67))⟩,
    ⟨none, (some 69), .inl (.mv (.s 6))⟩,
    ⟨none, (some 70), .inl (.len (.s 69))⟩,
    ⟨none, (some 71), .inl (.bin .sub (.s 70) (.c (.int .i64 1)))⟩,
    ⟨none, (some 72), .inl (.bin .neq (.s 68) (.s 71))⟩])
  (.cond (.s 72) (.seq (.region [⟨none, (some 4), .inl (.mv (.c (.bool false)))⟩])
   (.ret))
  (.skip)))
  (.seq (.draw [⟨⟨none, (some 73), .inl (.ld true 4 (.s 9))⟩, (some []), [], 0, false⟩,
    ⟨⟨none, (some 74), .inr (.fn 25 [(.s 73)])⟩, (some []), [], 1, false⟩,
    ⟨⟨none, (some 75), .inl (.mv (.s 12))⟩, (some []), [], 0, false⟩,
    ⟨⟨none, (some 76), .inl (.mv (.s 7))⟩, (some []), [], 0, false⟩,
    ⟨⟨none, (some 77), .inl (.mv (.s 8))⟩, (some []), [], 0, false⟩,
    ⟨⟨none, (some 78), .inl (.slc 4 (.s 75) (some (.s 76)) (some (.s 77)) none)⟩, (some []), [], 28, false⟩,
    ⟨⟨none, (some 79), .inr (.fn 26 [(.s 74), (.s 78)])⟩, (some []), [], 63, false⟩,
    ⟨⟨none, (some 13), .inl (.mv (.s 79))⟩, (some []), [], 127, false⟩])
  (.seq (.region [⟨none, (some 80), .inl (.mv (.s 5))⟩,
    ⟨none, (some 81), .inl (.mv (.s 80))⟩,
    ⟨(some (81, true)), (some 82), .inl (.mv (.s 11))⟩,
    ⟨none, (some 83), .inl (.pick (.s 81) (.s 82) (.c (.bool false)))⟩,
    ⟨none, (some 84), .inl (.mv (.s 83))⟩,
    ⟨(some (84, true)), (some 85), .inl (.mv (.s 13))⟩,
    ⟨none, (some 86), .inl (.pick (.s 84) (.s 85) (.c (.bool false)))⟩,
    ⟨none, (some 4), .inl (.mv (.s 86))⟩])
  (.ret))))))))))))))
/-- gyttja/gyttjalaw01.sane -/
def k8 : Cd :=
  .seq (.region [⟨none, (some 0), .inl (.mv (.c (.bool false)))⟩])
  (.seq (.region [⟨none, (some 11), .inr (.fn 29 [])⟩,
    ⟨none, (some 1), .inl (.alloc 36 [(.int .i64 0), (.int .i64 0), (.int .i64 0), (.slice none 0 0)])⟩,
    ⟨none, none, .inl (.st 4 (.s 1) (.s 11))⟩])
  (.seq (.region [⟨none, (some 13), .inl (.ld true 4 (.s 1))⟩,
    ⟨none, (some 14), .inr (.fn 16 [(.s 13), (.c (.int .i64 138)), (.c (.int .i64 134))])⟩,
    ⟨none, (some 12), .inl (.mv (.s 14))⟩,
    ⟨none, (some 15), .inl (.ex (.s 12) 0)⟩,
    ⟨none, (some 16), .inl (.ex (.s 12) 1)⟩,
    ⟨none, (some 2), .inl (.alloc 41 [(.int .i64 0), (.int .i64 0), (.int .i64 0), (.int .i64 0)])⟩,
    ⟨none, none, .inl (.st 4 (.s 2) (.s 15))⟩,
    ⟨none, (some 3), .inl (.mv (.s 16))⟩])
  (.seq (.region [⟨none, (some 18), .inl (.fa (.s 1) 3)⟩,
    ⟨none, (some 19), .inl (.ld false 1 (.s 18))⟩,
    ⟨none, (some 20), .inl (.slc 3 (.s 19) (some (.c (.int .i64 1))) (some (.c (.int .i64 3))) none)⟩,
    ⟨none, (some 21), .inl (.bs 3 1 1 [(.int .i64 0)] [(0, (.c (.int .i64 1)))])⟩,
    ⟨none, (some 22), .inr (.fn 12 [(.s 20), (.s 21)])⟩,
    ⟨none, (some 17), .inl (.mv (.s 22))⟩,
    ⟨none, (some 23), .inl (.ex (.s 17) 0)⟩,
    ⟨none, (some 24), .inl (.ex (.s 17) 1)⟩,
    ⟨none, (some 4), .inl (.mv (.s 23))⟩,
    ⟨none, (some 5), .inl (.mv (.s 24))⟩])
  (.seq (.region [⟨none, (some 26), .inr (.fn 30 [(.c (.string ⟨#[115, 104, 101, 101, 116, 32, 49, 32, 114, 101, 97, 100, 101, 114, 32, 50, 32, 99, 111, 114, 101, 32, 51, 10, 10, 121, 101, 97, 114, 115, 32, 52]⟩))])⟩,
    ⟨none, (some 25), .inl (.mv (.s 26))⟩,
    ⟨none, (some 27), .inl (.ex (.s 25) 0)⟩,
    ⟨none, (some 28), .inl (.ex (.s 25) 1)⟩,
    ⟨none, (some 29), .inl (.ex (.s 25) 2)⟩,
    ⟨none, (some 6), .inl (.alloc 36 [(.int .i64 0), (.int .i64 0), (.int .i64 0), (.slice none 0 0)])⟩,
    ⟨none, none, .inl (.st 4 (.s 6) (.s 27))⟩,
    ⟨none, (some 7), .inl (.mv (.s 28))⟩,
    ⟨none, (some 8), .inl (.mv (.s 29))⟩])
  (.seq (.region [⟨none, (some 31), .inl (.fa (.s 1) 3)⟩,
    ⟨none, (some 32), .inl (.ld false 1 (.s 31))⟩,
    ⟨none, (some 33), .inl (.slc 3 (.s 32) (some (.c (.int .i64 4))) (some (.c (.int .i64 7))) none)⟩,
    ⟨none, (some 34), .inr (.fn 11 [(.s 33)])⟩,
    ⟨none, (some 30), .inl (.mv (.s 34))⟩,
    ⟨none, (some 35), .inl (.ex (.s 30) 0)⟩,
    ⟨none, (some 36), .inl (.ex (.s 30) 1)⟩,
    ⟨none, (some 9), .inl (.mv (.s 35))⟩,
    ⟨none, (some 10), .inl (.mv (.s 36))⟩])
  (.seq (.region [⟨none, (some 37), .inl (.mv (.s 3))⟩,
    ⟨none, (some 38), .inl (.bin .eql (.s 37) (.c (.int .i64 0)))⟩,
    ⟨none, (some 39), .inl (.mv (.s 38))⟩,
    ⟨(some (39, true)), (some 40), .inl (.ld true 4 (.s 2))⟩,
    ⟨(some (39, true)), (some 41), .inl (.bld [(.int .i64 0), (.int .i64 0), (.int .i64 0), (.int .i64 0)] [(0, 1, (.c (.int .i64 138))), (1, 1, (.c (.int .i64 134))), (2, 1, (.c (.int .i64 (-8)))), (3, 1, (.c (.int .i64 (-3))))])⟩,
    ⟨(some (39, true)), (some 42), .inl (.eq false (.cells [.int, .int, .int, .int]) (.s 40) (.s 41))⟩,
    ⟨none, (some 43), .inl (.pick (.s 39) (.s 42) (.c (.bool false)))⟩,
    ⟨none, (some 44), .inl (.mv (.s 43))⟩,
    ⟨(some (44, true)), (some 45), .inl (.mv (.s 5))⟩,
    ⟨(some (44, true)), (some 46), .inl (.bin .eql (.s 45) (.c (.int .i64 0)))⟩,
    ⟨none, (some 47), .inl (.pick (.s 44) (.s 46) (.c (.bool false)))⟩,
    ⟨none, (some 48), .inl (.mv (.s 47))⟩,
    ⟨(some (48, true)), (some 49), .inl (.mv (.s 4))⟩,
    ⟨(some (48, true)), (some 50), .inl (.len (.s 49))⟩,
    ⟨(some (48, true)), (some 51), .inl (.bin .eql (.s 50) (.c (.int .i64 3)))⟩,
    ⟨none, (some 52), .inl (.pick (.s 48) (.s 51) (.c (.bool false)))⟩,
    ⟨none, (some 53), .inl (.mv (.s 52))⟩,
    ⟨(some (53, true)), (some 54), .inl (.mv (.s 4))⟩,
    ⟨(some (53, true)), (some 55), .inl (.ias 1 (.s 54) (.c (.int .i64 0)))⟩,
    ⟨(some (53, true)), (some 56), .inl (.ld false 1 (.s 55))⟩,
    ⟨(some (53, true)), (some 57), .inl (.bin .eql (.s 56) (.c (.int .i64 120)))⟩,
    ⟨none, (some 58), .inl (.pick (.s 53) (.s 57) (.c (.bool false)))⟩,
    ⟨none, (some 59), .inl (.mv (.s 58))⟩,
    ⟨(some (59, true)), (some 60), .inl (.mv (.s 4))⟩,
    ⟨(some (59, true)), (some 61), .inl (.ias 1 (.s 60) (.c (.int .i64 2)))⟩,
    ⟨(some (59, true)), (some 62), .inl (.ld false 1 (.s 61))⟩,
    ⟨(some (59, true)), (some 63), .inl (.bin .eql (.s 62) (.c (.int .i64 95)))⟩,
    ⟨none, (some 64), .inl (.pick (.s 59) (.s 63) (.c (.bool false)))⟩,
    ⟨none, (some 65), .inl (.mv (.s 64))⟩,
    ⟨(some (65, true)), (some 66), .inl (.mv (.s 8))⟩,
    ⟨(some (65, true)), (some 67), .inl (.bin .eql (.s 66) (.c (.int .i64 12)))⟩,
    ⟨none, (some 68), .inl (.pick (.s 65) (.s 67) (.c (.bool false)))⟩,
    ⟨none, (some 69), .inl (.mv (.s 68))⟩,
    ⟨(some (69, true)), (some 70), .inl (.mv (.s 7))⟩,
    ⟨(some (69, true)), (some 71), .inl (.bin .eql (.s 70) (.c (.int .i64 3)))⟩,
    ⟨none, (some 72), .inl (.pick (.s 69) (.s 71) (.c (.bool false)))⟩,
    ⟨none, (some 73), .inl (.mv (.s 72))⟩,
    ⟨(some (73, true)), (some 74), .inl (.mv (.s 10))⟩,
    ⟨(some (73, true)), (some 75), .inl (.bin .eql (.s 74) (.c (.int .i64 13)))⟩,
    ⟨none, (some 76), .inl (.pick (.s 73) (.s 75) (.c (.bool false)))⟩,
    ⟨none, (some 77), .inl (.mv (.s 76))⟩,
    ⟨(some (77, true)), (some 78), .inr (.fn 31 [(.c (.int .i64 2)), (.c (.int .i64 5))])⟩,
    ⟨(some (77, true)), (some 79), .inl (.bin .eql (.s 78) (.c (.int .i64 134)))⟩,
    ⟨none, (some 80), .inl (.pick (.s 77) (.s 79) (.c (.bool false)))⟩,
    ⟨none, (some 0), .inl (.mv (.s 80))⟩])
  (.ret)))))))
/-- gyttja/gyttjalaw01.cut -/
def k9 : Cd :=
  .seq (.region [⟨none, (some 2), .inl (.mv (.c (.slice none 0 0)))⟩])
  (.seq (.region [⟨none, (some 3), .inl (.mv (.s 0))⟩,
    ⟨none, (some 4), .inl (.mv (.s 0))⟩,
    ⟨none, (some 5), .inl (.len (.s 4))⟩,
    ⟨none, (some 6), .inl (.mm false (.s 5) (.c (.int .i64 60)))⟩,
    ⟨none, (some 7), .inl (.slc 3 (.s 3) none (some (.s 6)) none)⟩,
    ⟨none, (some 2), .inl (.mv (.s 7))⟩])
  (.ret))
def k10l0 : Cd :=
  .seq (.region [⟨none, (some 19), .inl (.bin .lss (.s 18) (.s 17))⟩])
  (.seq (.cond (.s 19) (.skip)
  (.exit 0))
  (.seq (.block 1 (.seq (.region [⟨none, (some 20), .inl (.ias 7 (.s 16) (.s 18))⟩,
    ⟨none, (some 21), .inl (.ld true 7 (.s 20))⟩,
    ⟨none, (some 7), .inl (.alloc 71 [(.bool false), (.int .i64 0), (.int .i64 0), (.slice none 0 0), (.int .i64 0), (.bool false), (.bool false)])⟩,
    ⟨none, none, .inl (.st 7 (.s 7) (.s 21))⟩])
  (.seq (.region [⟨none, (some 22), .inl (.mv (.s 2))⟩,
    ⟨none, (some 23), .inl (.fa (.s 7) 1)⟩,
    ⟨none, (some 24), .inl (.ld false 1 (.s 23))⟩,
    ⟨none, (some 25), .inl (.bin .add (.s 22) (.s 24))⟩,
    ⟨none, (some 2), .inl (.mv (.s 25))⟩])
  (.region [⟨none, (some 26), .inl (.mv (.s 3))⟩,
    ⟨none, (some 27), .inl (.fa (.s 7) 2)⟩,
    ⟨none, (some 28), .inl (.ld false 1 (.s 27))⟩,
    ⟨none, (some 29), .inl (.bin .add (.s 26) (.s 28))⟩,
    ⟨none, (some 3), .inl (.mv (.s 29))⟩]))))
  (.region [⟨none, (some 30), .inl (.bin .add (.s 18) (.c (.int .i64 1)))⟩,
    ⟨none, (some 18), .inl (.mv (.s 30))⟩])))
/-- gyttja/sheet.Years -/
def k10 : Cd :=
  .seq (.region [⟨none, (some 2), .inl (.mv (.c (.int .i64 0)))⟩,
    ⟨none, (some 3), .inl (.mv (.c (.int .i64 0)))⟩,
    ⟨none, (some 4), .inl (.mv (.c (.int .i64 0)))⟩])
  (.seq (.region [⟨none, (some 9), .inl (.mv (.s 0))⟩,
    ⟨none, (some 10), .inr (.fn 32 [(.s 9)])⟩,
    ⟨none, (some 8), .inl (.mv (.s 10))⟩,
    ⟨none, (some 11), .inl (.ex (.s 8) 0)⟩,
    ⟨none, (some 12), .inl (.ex (.s 8) 1)⟩,
    ⟨none, (some 5), .inl (.mv (.s 11))⟩,
    ⟨none, (some 4), .inl (.mv (.s 12))⟩])
  (.seq (.seq (.region [⟨none, (some 13), .inl (.mv (.s 4))⟩,
    ⟨none, (some 14), .inl (.bin .neq (.s 13) (.c (.int .i64 0)))⟩])
  (.cond (.s 14) (.seq (.region [⟨none, (some 15), .inl (.mv (.s 4))⟩,
     ⟨none, (some 2), .inl (.mv (.c (.int .i64 0)))⟩,
     ⟨none, (some 3), .inl (.mv (.c (.int .i64 0)))⟩,
     ⟨none, (some 4), .inl (.mv (.s 15))⟩])
   (.ret))
  (.skip)))
  (.seq (.seq (.region [⟨none, (some 16), .inl (.mv (.s 5))⟩,
    ⟨none, (some 17), .inl (.len (.s 16))⟩,
    ⟨none, (some 18), .inl (.mv (.c (.int .i64 0)))⟩])
  (.block 0 (.loop k10l0)))
  (.seq (.region [⟨none, (some 31), .inl (.mv (.s 2))⟩,
    ⟨none, (some 32), .inl (.mv (.s 3))⟩,
    ⟨none, (some 2), .inl (.mv (.s 31))⟩,
    ⟨none, (some 3), .inl (.mv (.s 32))⟩,
    ⟨none, (some 4), .inl (.mv (.c (.int .i64 0)))⟩])
  (.ret)))))
def k11l0 : Cd :=
  .seq (.region [⟨none, (some 20), .inl (.bin .lss (.s 19) (.s 18))⟩])
  (.seq (.cond (.s 20) (.skip)
  (.exit 0))
  (.seq (.block 1 (.seq (.region [⟨none, (some 21), .inl (.ias 7 (.s 17) (.s 19))⟩,
    ⟨none, (some 22), .inl (.ld true 7 (.s 21))⟩,
    ⟨none, (some 8), .inl (.alloc 71 [(.bool false), (.int .i64 0), (.int .i64 0), (.slice none 0 0), (.int .i64 0), (.bool false), (.bool false)])⟩,
    ⟨none, none, .inl (.st 7 (.s 8) (.s 22))⟩])
  (.draw [⟨⟨none, (some 23), .inl (.mv (.s 6))⟩, (some []), [], 0, false⟩,
    ⟨⟨none, (some 24), .inl (.fa (.s 8) 4)⟩, (some []), [], 0, false⟩,
    ⟨⟨none, (some 25), .inl (.ld false 1 (.s 24))⟩, (some []), [], 2, false⟩,
    ⟨⟨none, (some 26), .inl (.fa (.s 8) 3)⟩, (some []), [], 0, false⟩,
    ⟨⟨none, (some 27), .inl (.ld false 1 (.s 26))⟩, (some []), [], 8, false⟩,
    ⟨⟨none, (some 28), .inr (.fn 34 [(.s 27)])⟩, (some []), [], 24, false⟩,
    ⟨⟨none, (some 29), .inl (.bin .add (.s 25) (.s 28))⟩, (some []), [], 62, false⟩,
    ⟨⟨none, (some 30), .inl (.bin .add (.s 23) (.s 29))⟩, (some []), [], 127, false⟩,
    ⟨⟨none, (some 6), .inl (.mv (.s 30))⟩, (some []), [], 255, false⟩])))
  (.region [⟨none, (some 31), .inl (.bin .add (.s 19) (.c (.int .i64 1)))⟩,
    ⟨none, (some 19), .inl (.mv (.s 31))⟩])))
/-- gyttja/sheet.Length -/
def k11 : Cd :=
  .seq (.region [⟨none, (some 2), .inl (.mv (.c (.int .i64 0)))⟩,
    ⟨none, (some 3), .inl (.mv (.c (.int .i64 0)))⟩])
  (.seq (.region [⟨none, (some 10), .inl (.mv (.s 0))⟩,
    ⟨none, (some 11), .inr (.fn 33 [(.s 10)])⟩,
    ⟨none, (some 9), .inl (.mv (.s 11))⟩,
    ⟨none, (some 12), .inl (.ex (.s 9) 0)⟩,
    ⟨none, (some 13), .inl (.ex (.s 9) 1)⟩,
    ⟨none, (some 4), .inl (.mv (.s 12))⟩,
    ⟨none, (some 5), .inl (.mv (.s 13))⟩])
  (.seq (.seq (.region [⟨none, (some 14), .inl (.mv (.s 5))⟩,
    ⟨none, (some 15), .inl (.bin .neq (.s 14) (.c (.int .i64 0)))⟩])
  (.cond (.s 15) (.seq (.region [⟨none, (some 16), .inl (.mv (.s 5))⟩,
     ⟨none, (some 2), .inl (.mv (.c (.int .i64 0)))⟩,
     ⟨none, (some 3), .inl (.mv (.s 16))⟩])
   (.ret))
  (.skip)))
  (.seq (.region [⟨none, (some 6), .inl (.mv (.c (.int .i64 0)))⟩])
  (.seq (.seq (.region [⟨none, (some 17), .inl (.mv (.s 4))⟩,
    ⟨none, (some 18), .inl (.len (.s 17))⟩,
    ⟨none, (some 19), .inl (.mv (.c (.int .i64 0)))⟩])
  (.block 0 (.loop k11l0)))
  (.seq (.region [⟨none, (some 32), .inl (.mv (.s 6))⟩,
    ⟨none, (some 2), .inl (.mv (.s 32))⟩,
    ⟨none, (some 3), .inl (.mv (.c (.int .i64 0)))⟩])
  (.ret))))))
def k12l0 : Cd :=
  .seq (.region [⟨none, (some 24), .inl (.bin .lss (.s 23) (.s 22))⟩])
  (.seq (.cond (.s 24) (.skip)
  (.exit 0))
  (.seq (.block 1 (.seq (.region [⟨none, (some 25), .inl (.ias 7 (.s 21) (.s 23))⟩,
    ⟨none, (some 26), .inl (.ld true 7 (.s 25))⟩,
    ⟨none, (some 11), .inl (.alloc 71 [(.bool false), (.int .i64 0), (.int .i64 0), (.slice none 0 0), (.int .i64 0), (.bool false), (.bool false)])⟩,
    ⟨none, none, .inl (.st 7 (.s 11) (.s 26))⟩])
  (.seq (.region [⟨none, (some 27), .inl (.fa (.s 11) 1)⟩,
    ⟨none, (some 28), .inl (.ld false 1 (.s 27))⟩,
    ⟨none, (some 12), .inl (.mv (.s 28))⟩])
  (.seq (.seq (.region [⟨none, (some 29), .inl (.fa (.s 11) 6)⟩,
    ⟨none, (some 30), .inl (.ld false 1 (.s 29))⟩])
  (.cond (.s 30) (.seq (.region [⟨none, (some 31), .inl (.mv (.s 12))⟩,
     ⟨none, (some 32), .inl (.mv (.s 1))⟩,
     ⟨none, (some 33), .inl (.mv (.s 9))⟩,
     ⟨none, (some 34), .inl (.fa (.s 11) 2)⟩,
     ⟨none, (some 35), .inl (.ld false 1 (.s 34))⟩,
     ⟨none, (some 36), .inl (.fa (.s 11) 1)⟩,
     ⟨none, (some 37), .inl (.ld false 1 (.s 36))⟩,
     ⟨none, (some 38), .inl (.bin .sub (.s 35) (.s 37))⟩,
     ⟨none, (some 39), .inl (.bin .add (.s 38) (.c (.int .i64 1)))⟩,
     ⟨none, (some 40), .inr (.fn 35 [(.s 32), (.s 33), (.s 39)])⟩,
     ⟨none, (some 41), .inl (.bin .add (.s 31) (.s 40))⟩,
     ⟨none, (some 12), .inl (.mv (.s 41))⟩])
   (.region [⟨none, (some 42), .inl (.mv (.s 9))⟩,
     ⟨none, (some 43), .inl (.bin .add (.s 42) (.c (.int .i64 1)))⟩,
     ⟨none, (some 9), .inl (.mv (.s 43))⟩]))
  (.skip)))
  (.region [⟨none, (some 44), .inl (.mv (.s 8))⟩,
    ⟨none, (some 45), .inl (.ld true 7 (.s 11))⟩,
    ⟨none, (some 46), .inl (.mv (.s 12))⟩,
    ⟨none, (some 47), .inr (.fn 36 [(.s 45), (.s 46)])⟩,
    ⟨none, (some 48), .inl (.app 3 1 8 (.s 44) (.s 47))⟩,
    ⟨none, (some 8), .inl (.mv (.s 48))⟩])))))
  (.region [⟨none, (some 49), .inl (.bin .add (.s 23) (.c (.int .i64 1)))⟩,
    ⟨none, (some 23), .inl (.mv (.s 49))⟩])))
/-- gyttja/sheet.Read -/
def k12 : Cd :=
  .seq (.region [⟨none, (some 4), .inl (.mv (.c (.slice none 0 0)))⟩,
    ⟨none, (some 5), .inl (.mv (.c (.int .i64 0)))⟩])
  (.seq (.region [⟨none, (some 14), .inl (.mv (.s 0))⟩,
    ⟨none, (some 15), .inr (.fn 32 [(.s 14)])⟩,
    ⟨none, (some 13), .inl (.mv (.s 15))⟩,
    ⟨none, (some 16), .inl (.ex (.s 13) 0)⟩,
    ⟨none, (some 17), .inl (.ex (.s 13) 1)⟩,
    ⟨none, (some 6), .inl (.mv (.s 16))⟩,
    ⟨none, (some 7), .inl (.mv (.s 17))⟩])
  (.seq (.seq (.region [⟨none, (some 18), .inl (.mv (.s 7))⟩,
    ⟨none, (some 19), .inl (.bin .neq (.s 18) (.c (.int .i64 0)))⟩])
  (.cond (.s 19) (.seq (.region [⟨none, (some 20), .inl (.mv (.s 7))⟩,
     ⟨none, (some 4), .inl (.mv (.c (.slice none 0 0)))⟩,
     ⟨none, (some 5), .inl (.mv (.s 20))⟩])
   (.ret))
  (.skip)))
  (.seq (.region [⟨none, (some 8), .inl (.mv (.c (.slice none 0 0)))⟩])
  (.seq (.region [⟨none, (some 9), .inl (.mv (.c (.int .i64 0)))⟩])
  (.seq (.seq (.region [⟨none, (some 21), .inl (.mv (.s 6))⟩,
    ⟨none, (some 22), .inl (.len (.s 21))⟩,
    ⟨none, (some 23), .inl (.mv (.c (.int .i64 0)))⟩])
  (.block 0 (.loop k12l0)))
  (.seq (.region [⟨none, (some 50), .inl (.mv (.s 8))⟩,
    ⟨none, (some 4), .inl (.mv (.s 50))⟩,
    ⟨none, (some 5), .inl (.mv (.c (.int .i64 0)))⟩])
  (.ret)))))))
def k13l0 : Cd :=
  .seq (.seq (.region [⟨none, (some 56), .inl (.mv (.s 13))⟩,
    ⟨none, (some 57), .inl (.fa (.s 11) 2)⟩,
    ⟨none, (some 58), .inl (.ld false 1 (.s 57))⟩,
    ⟨none, (some 59), .inl (.bin .leq (.s 56) (.s 58))⟩])
  (.cond (.s 59) (.skip)
  (.exit 2)))
  (.seq (.block 3 (.seq (.region [⟨none, (some 62), .inl (.ld true 7 (.s 11))⟩,
    ⟨none, (some 63), .inl (.mv (.s 13))⟩,
    ⟨none, (some 64), .inr (.fn 36 [(.s 62), (.s 63)])⟩,
    ⟨none, (some 14), .inl (.mv (.s 64))⟩])
  (.seq (.region [⟨none, (some 65), .inl (.mv (.s 7))⟩,
    ⟨none, (some 66), .inl (.mv (.s 14))⟩,
    ⟨none, (some 67), .inr (.fn 39 [(.s 65), (.s 66)])⟩])
  (.cond (.s 67) (.seq (.region [⟨none, (some 68), .inl (.mv (.s 7))⟩,
     ⟨none, (some 69), .inl (.mv (.s 14))⟩,
     ⟨none, (some 70), .inl (.len (.s 69))⟩,
     ⟨none, (some 71), .inl (.slc 1 (.s 68) (some (.s 70)) none none)⟩,
     ⟨none, (some 7), .inl (.mv (.s 71))⟩])
   (.exit 1))
  (.skip)))))
  (.region [⟨none, (some 60), .inl (.mv (.s 13))⟩,
    ⟨none, (some 61), .inl (.bin .add (.s 60) (.c (.int .i64 1)))⟩,
    ⟨none, (some 13), .inl (.mv (.s 61))⟩]))
def k13l1 : Cd :=
  .seq (.region [⟨none, (some 27), .inl (.bin .lss (.s 26) (.s 25))⟩])
  (.seq (.cond (.s 27) (.skip)
  (.exit 0))
  (.seq (.block 1 (.seq (.region [⟨none, (some 28), .inl (.ias 7 (.s 24) (.s 26))⟩,
    ⟨none, (some 29), .inl (.ld true 7 (.s 28))⟩,
    ⟨none, (some 11), .inl (.alloc 71 [(.bool false), (.int .i64 0), (.int .i64 0), (.slice none 0 0), (.int .i64 0), (.bool false), (.bool false)])⟩,
    ⟨none, none, .inl (.st 7 (.s 11) (.s 29))⟩])
  (.seq (.seq (.region [⟨none, (some 30), .inl (.fa (.s 11) 5)⟩,
    ⟨none, (some 31), .inl (.ld false 1 (.s 30))⟩])
  (.cond (.s 31) (.seq (.region [⟨none, (some 32), .inl (.mv (.s 8))⟩,
     ⟨none, (some 33), .inl (.fa (.s 11) 1)⟩,
     ⟨none, (some 34), .inl (.ld false 1 (.s 33))⟩,
     ⟨none, (some 35), .inl (.bin .add (.s 32) (.s 34))⟩,
     ⟨none, (some 8), .inl (.mv (.s 35))⟩])
   (.seq (.region [⟨none, (some 36), .inl (.mv (.s 9))⟩,
     ⟨none, (some 37), .inl (.fa (.s 11) 2)⟩,
     ⟨none, (some 38), .inl (.ld false 1 (.s 37))⟩,
     ⟨none, (some 39), .inl (.bin .add (.s 36) (.s 38))⟩,
     ⟨none, (some 9), .inl (.mv (.s 39))⟩])
   (.exit 1)))
  (.skip)))
  (.seq (.seq (.region [⟨none, (some 40), .inl (.fa (.s 11) 3)⟩,
    ⟨none, (some 41), .inl (.ld false 1 (.s 40))⟩,
    ⟨none, (some 42), .inl (.len (.s 41))⟩,
    ⟨none, (some 43), .inl (.bin .eql (.s 42) (.c (.int .i64 0)))⟩])
  (.cond (.s 43) (.exit 1)
  (.skip)))
  (.seq (.region [⟨none, (some 44), .inl (.mv (.s 7))⟩,
    ⟨none, (some 45), .inr (.fn 37 [(.s 44)])⟩,
    ⟨none, (some 12), .inl (.mv (.s 45))⟩])
  (.seq (.seq (.region [⟨none, (some 46), .inl (.mv (.s 12))⟩,
    ⟨none, (some 47), .inl (.mv (.s 8))⟩,
    ⟨none, (some 48), .inl (.mv (.s 9))⟩,
    ⟨none, (some 49), .inr (.fn 38 [(.s 46), (.s 47), (.s 48)])⟩,
    ⟨none, (some 50), .inl (.not (.s 49))⟩])
  (.cond (.s 50) (.seq (.region [⟨none, (some 4), .inl (.mv (.c (.bool false)))⟩])
   (.ret))
  (.skip)))
  (.seq (.region [⟨none, (some 51), .inl (.mv (.s 7))⟩,
    ⟨none, (some 52), .inl (.mv (.s 12))⟩,
    ⟨none, (some 53), .inl (.slc 1 (.s 51) (some (.s 52)) none none)⟩,
    ⟨none, (some 7), .inl (.mv (.s 53))⟩,
    ⟨none, (some 8), .inl (.mv (.c (.int .i64 0)))⟩,
    ⟨none, (some 9), .inl (.mv (.c (.int .i64 0)))⟩])
  (.seq (.seq (.region [⟨none, (some 54), .inl (.fa (.s 11) 1)⟩,
    ⟨none, (some 55), .inl (.ld false 1 (.s 54))⟩,
    ⟨none, (some 13), .inl (.mv (.s 55))⟩])
  (.block 2 (.loop k13l0)))
  (.seq (.region [⟨none, (some 4), .inl (.mv (.c (.bool false)))⟩])
  (.ret))))))))))
  (.region [⟨none, (some 72), .inl (.bin .add (.s 26) (.c (.int .i64 1)))⟩,
    ⟨none, (some 26), .inl (.mv (.s 72))⟩])))
/-- gyttja/sheet.IsReading -/
def k13 : Cd :=
  .seq (.region [⟨none, (some 4), .inl (.mv (.c (.bool false)))⟩])
  (.scope (.seq (.region [⟨none, (some 17), .inl (.mv (.s 0))⟩,
    ⟨none, (some 18), .inr (.fn 32 [(.s 17)])⟩,
    ⟨none, (some 16), .inl (.mv (.s 18))⟩,
    ⟨none, (some 19), .inl (.ex (.s 16) 0)⟩,
    ⟨none, (some 20), .inl (.ex (.s 16) 1)⟩,
    ⟨none, (some 5), .inl (.mv (.s 19))⟩,
    ⟨none, (some 6), .inl (.mv (.s 20))⟩])
  (.seq (.seq (.region [⟨none, (some 21), .inl (.mv (.s 6))⟩,
    ⟨none, (some 22), .inl (.bin .neq (.s 21) (.c (.int .i64 0)))⟩])
  (.cond (.s 22) (.seq (.region [⟨none, (some 4), .inl (.mv (.c (.bool false)))⟩])
   (.ret))
  (.skip)))
  (.seq (.region [⟨none, (some 23), .inl (.mv (.s 1))⟩,
    ⟨none, (some 7), .inl (.mv (.s 23))⟩])
  (.seq (.region [⟨none, (some 8), .inl (.mv (.c (.int .i64 0)))⟩,
    ⟨none, (some 9), .inl (.mv (.c (.int .i64 0)))⟩])
  (.seq (.skip)
  (.seq (.seq (.region [⟨none, (some 24), .inl (.mv (.s 5))⟩,
    ⟨none, (some 25), .inl (.len (.s 24))⟩,
    ⟨none, (some 26), .inl (.mv (.c (.int .i64 0)))⟩])
  (.block 0 (.loop k13l1)))
  (.seq (.region [⟨none, (some 73), .inl (.mv (.s 7))⟩,
    ⟨none, (some 74), .inr (.fn 37 [(.s 73)])⟩,
    ⟨none, (some 15), .inl (.mv (.s 74))⟩])
  (.seq (.region [⟨none, (some 75), .inl (.mv (.s 15))⟩,
    ⟨none, (some 76), .inl (.mv (.s 7))⟩,
    ⟨none, (some 77), .inl (.len (.s 76))⟩,
    ⟨none, (some 78), .inl (.bin .eql (.s 75) (.s 77))⟩,
    ⟨none, (some 79), .inl (.mv (.s 78))⟩,
    ⟨(some (79, true)), (some 80), .inl (.mv (.s 15))⟩,
    ⟨(some (79, true)), (some 81), .inl (.mv (.s 8))⟩,
    ⟨(some (79, true)), (some 82), .inl (.mv (.s 9))⟩,
    ⟨(some (79, true)), (some 83), .inr (.fn 38 [(.s 80), (.s 81), (.s 82)])⟩,
    ⟨none, (some 84), .inl (.pick (.s 79) (.s 83) (.c (.bool false)))⟩,
    ⟨none, (some 4), .inl (.mv (.s 84))⟩])
  (.ret))))))))))
/-- gyttja/gyttjalaw01.trimmed -/
def k14 : Cd :=
  .seq (.region [⟨none, (some 1), .inl (.box 36 4 (.s 0))⟩,
    ⟨none, (some 2), .inl (.alloc 36 [(.int .i64 0), (.int .i64 0), (.int .i64 0), (.slice none 0 0)])⟩])
  (.seq (.region [⟨none, (some 3), .inl (.fa (.s 1) 3)⟩,
    ⟨none, (some 4), .inl (.ld false 1 (.s 3))⟩,
    ⟨none, (some 5), .inr (.fn 9 [(.s 4)])⟩,
    ⟨none, (some 6), .inl (.fa (.s 1) 3)⟩,
    ⟨none, none, .inl (.st 1 (.s 6) (.s 5))⟩])
  (.seq (.region [⟨none, (some 7), .inl (.ld true 4 (.s 1))⟩,
    ⟨none, none, .inl (.st 4 (.s 2) (.s 7))⟩])
  (.ret)))
def k15l0 : Cd :=
  .region [⟨none, (some 5), .inl (.alloc 80 [(.int .i64 0), (.int .i64 0), (.int .i64 0)])⟩,
    ⟨none, none, .inl (.st 3 (.s 5) (.s 12))⟩]
def k15l1 : Cd :=
  .block 1 (.seq (.region [⟨none, (some 13), .inl (.fa (.s 5) 0)⟩,
    ⟨none, (some 14), .inl (.ld false 1 (.s 13))⟩,
    ⟨none, (some 15), .inl (.bin .eql (.s 14) (.c (.int .i64 1)))⟩])
  (.cond (.s 15) (.draw [⟨⟨none, (some 16), .inl (.ld false 1 (.s 3))⟩, (some []), [.fr 22], 0, false⟩,
     ⟨⟨none, (some 17), .inl (.fa (.s 1) 2)⟩, (some []), [], 0, false⟩,
     ⟨⟨none, (some 18), .inl (.ld false 1 (.s 17))⟩, (some []), [], 2, false⟩,
     ⟨⟨none, (some 19), .inl (.fa (.s 5) 1)⟩, (some []), [], 0, false⟩,
     ⟨⟨none, (some 20), .inl (.ld false 1 (.s 19))⟩, (some []), [], 8, false⟩,
     ⟨⟨none, (some 21), .inr (.fn 31 [(.s 18), (.s 20)])⟩, (some []), [], 30, false⟩,
     ⟨⟨none, (some 22), .inl (.bs 3 1 1 [(.int .i64 0)] [(0, (.s 21))])⟩, (some [.fr 22]), [], 62, false⟩,
     ⟨⟨none, (some 23), .inl (.app 3 1 8 (.s 16) (.s 22))⟩, (some [.fr 23, .at 16]), [], 127, false⟩,
     ⟨⟨none, none, .inl (.st 1 (.s 3) (.s 23))⟩, (some [.at 3]), [], 255, false⟩])
  (.skip)))
/-- gyttja/sheet.Marks -/
def k15 : Cd :=
  .seq (.region [⟨none, (some 1), .inl (.box 36 4 (.s 0))⟩,
    ⟨none, (some 2), .inl (.mv (.c (.slice none 0 0)))⟩])
  (.seq (.seq (.region [⟨none, (some 6), .inl (.ld true 4 (.s 1))⟩,
    ⟨none, (some 7), .inr (.fn 23 [(.s 6)])⟩,
    ⟨none, (some 8), .inl (.bin .neq (.s 7) (.c (.int .i64 0)))⟩])
  (.cond (.s 8) (.seq (.region [⟨none, (some 2), .inl (.mv (.c (.slice none 0 0)))⟩])
   (.ret))
  (.skip)))
  (.seq (.region [⟨none, (some 3), .inl (.alloc 23 [(.slice none 0 0)])⟩])
  (.seq (.seq (.region [⟨none, (some 9), .inl (.ld true 4 (.s 1))⟩,
    ⟨none, (some 10), .inr (.fn 40 [(.s 9)])⟩])
  (.block 0 (.rangeF (.s 10) [11, 12] k15l0 k15l1)))
  (.seq (.region [⟨none, (some 24), .inl (.ld false 1 (.s 3))⟩,
    ⟨none, (some 2), .inl (.mv (.s 24))⟩])
  (.ret)))))
/-- gyttja/sheet.Between -/
def k16 : Cd :=
  .seq (.region [⟨none, (some 3), .inl (.box 36 4 (.s 0))⟩,
    ⟨none, (some 6), .inl (.alloc 41 [(.int .i64 0), (.int .i64 0), (.int .i64 0), (.int .i64 0)])⟩,
    ⟨none, (some 7), .inl (.mv (.c (.int .i64 0)))⟩])
  (.seq (.seq (.region [⟨none, (some 14), .inl (.ld true 4 (.s 3))⟩,
    ⟨none, (some 15), .inl (.mv (.s 1))⟩,
    ⟨none, (some 16), .inl (.mv (.s 2))⟩,
    ⟨none, (some 17), .inr (.fn 41 [(.s 14), (.s 15), (.s 16)])⟩,
    ⟨none, (some 8), .inl (.mv (.s 17))⟩])
  (.seq (.region [⟨none, (some 18), .inl (.mv (.s 8))⟩,
    ⟨none, (some 19), .inl (.bin .neq (.s 18) (.c (.int .i64 0)))⟩])
  (.cond (.s 19) (.seq (.region [⟨none, (some 20), .inl (.bld [(.int .i64 0), (.int .i64 0), (.int .i64 0), (.int .i64 0)] [])⟩,
     ⟨none, (some 21), .inl (.mv (.s 8))⟩,
     ⟨none, none, .inl (.st 4 (.s 6) (.s 20))⟩,
     ⟨none, (some 7), .inl (.mv (.s 21))⟩])
   (.ret))
  (.skip))))
  (.seq (.region [⟨none, (some 22), .inl (.ld true 4 (.s 3))⟩,
    ⟨none, (some 23), .inr (.fn 25 [(.s 22)])⟩,
    ⟨none, (some 9), .inl (.mv (.s 23))⟩])
  (.seq (.seq (.region [⟨none, (some 24), .inl (.mv (.s 2))⟩,
    ⟨none, (some 25), .inl (.mv (.s 1))⟩,
    ⟨none, (some 26), .inl (.bin .lss (.s 24) (.s 25))⟩])
  (.cond (.s 26) (.seq (.region [⟨none, (some 28), .inl (.mv (.s 9))⟩,
     ⟨none, (some 29), .inl (.mv (.s 2))⟩,
     ⟨none, (some 30), .inl (.mv (.s 1))⟩,
     ⟨none, (some 31), .inr (.fn 42 [(.s 28), (.s 29), (.s 30)])⟩,
     ⟨none, (some 27), .inl (.mv (.s 31))⟩,
     ⟨none, (some 32), .inl (.ex (.s 27) 0)⟩,
     ⟨none, (some 33), .inl (.ex (.s 27) 1)⟩,
     ⟨none, (some 10), .inl (.mv (.s 32))⟩,
     ⟨none, (some 11), .inl (.mv (.s 33))⟩])
   (.seq (.region [⟨none, (some 34), .inl (.mv (.s 1))⟩,
     ⟨none, (some 35), .inl (.mv (.s 2))⟩,
     ⟨none, (some 36), .inl (.mv (.s 11))⟩,
     ⟨none, (some 37), .inl (.neg (.s 36))⟩,
     ⟨none, (some 38), .inl (.mv (.s 10))⟩,
     ⟨none, (some 39), .inl (.neg (.s 38))⟩,
     ⟨none, (some 40), .inl (.bld [(.int .i64 0), (.int .i64 0), (.int .i64 0), (.int .i64 0)] [(0, 1, (.s 34)), (1, 1, (.s 35)), (2, 1, (.s 37)), (3, 1, (.s 39))])⟩,
     ⟨none, none, .inl (.st 4 (.s 6) (.s 40))⟩,
     ⟨none, (some 7), .inl (.mv (.c (.int .i64 0)))⟩])
   (.ret)))
  (.skip)))
  (.seq (.region [⟨none, (some 42), .inl (.mv (.s 9))⟩,
    ⟨none, (some 43), .inl (.mv (.s 1))⟩,
    ⟨none, (some 44), .inl (.mv (.s 2))⟩,
    ⟨none, (some 45), .inr (.fn 42 [(.s 42), (.s 43), (.s 44)])⟩,
    ⟨none, (some 41), .inl (.mv (.s 45))⟩,
    ⟨none, (some 46), .inl (.ex (.s 41) 0)⟩,
    ⟨none, (some 47), .inl (.ex (.s 41) 1)⟩,
    ⟨none, (some 12), .inl (.mv (.s 46))⟩,
    ⟨none, (some 13), .inl (.mv (.s 47))⟩])
  (.seq (.region [⟨none, (some 48), .inl (.mv (.s 1))⟩,
    ⟨none, (some 49), .inl (.mv (.s 2))⟩,
    ⟨none, (some 50), .inl (.mv (.s 12))⟩,
    ⟨none, (some 51), .inl (.mv (.s 13))⟩,
    ⟨none, (some 52), .inl (.bld [(.int .i64 0), (.int .i64 0), (.int .i64 0), (.int .i64 0)] [(0, 1, (.s 48)), (1, 1, (.s 49)), (2, 1, (.s 50)), (3, 1, (.s 51))])⟩,
    ⟨none, none, .inl (.st 4 (.s 6) (.s 52))⟩,
    ⟨none, (some 7), .inl (.mv (.c (.int .i64 0)))⟩])
  (.ret))))))
/-- gyttja/gyttjaref01.Mod -/
def k17 : Cd :=
  .seq (.region [⟨none, (some 4), .inl (.mv (.c (.int .i64 0)))⟩])
  (.seq (.region [⟨none, (some 5), .inl (.mv (.s 0))⟩,
    ⟨none, (some 6), .inl (.mv (.s 1))⟩,
    ⟨none, (some 7), .inl (.bin .rem (.s 5) (.s 6))⟩,
    ⟨none, (some 8), .inl (.mv (.s 1))⟩,
    ⟨none, (some 9), .inl (.bin .add (.s 7) (.s 8))⟩,
    ⟨none, (some 10), .inl (.mv (.s 1))⟩,
    ⟨none, (some 11), .inl (.bin .rem (.s 9) (.s 10))⟩,
    ⟨none, (some 4), .inl (.mv (.s 11))⟩])
  (.ret))
/-- gyttja/sheet.Cut -/
def k22 : Cd :=
  .seq (.region [⟨none, (some 3), .inl (.box 36 4 (.s 0))⟩,
    ⟨none, (some 6), .inl (.alloc 36 [(.int .i64 0), (.int .i64 0), (.int .i64 0), (.slice none 0 0)])⟩,
    ⟨none, (some 7), .inl (.mv (.c (.int .i64 0)))⟩])
  (.seq (.seq (.region [⟨none, (some 10), .inl (.ld true 4 (.s 3))⟩,
    ⟨none, (some 11), .inl (.mv (.s 1))⟩,
    ⟨none, (some 12), .inl (.mv (.s 2))⟩,
    ⟨none, (some 13), .inr (.fn 41 [(.s 10), (.s 11), (.s 12)])⟩,
    ⟨none, (some 8), .inl (.mv (.s 13))⟩])
  (.seq (.region [⟨none, (some 14), .inl (.mv (.s 8))⟩,
    ⟨none, (some 15), .inl (.bin .neq (.s 14) (.c (.int .i64 0)))⟩])
  (.cond (.s 15) (.seq (.region [⟨none, (some 16), .inl (.bld [(.int .i64 0), (.int .i64 0), (.int .i64 0), (.slice none 0 0)] [])⟩,
     ⟨none, (some 17), .inl (.mv (.s 8))⟩,
     ⟨none, none, .inl (.st 4 (.s 6) (.s 16))⟩,
     ⟨none, (some 7), .inl (.mv (.s 17))⟩])
   (.ret))
  (.skip))))
  (.seq (.seq (.region [⟨none, (some 18), .inl (.mv (.s 2))⟩,
    ⟨none, (some 19), .inl (.mv (.s 1))⟩,
    ⟨none, (some 20), .inl (.bin .lss (.s 18) (.s 19))⟩])
  (.cond (.s 20) (.seq (.region [⟨none, (some 21), .inl (.bld [(.int .i64 0), (.int .i64 0), (.int .i64 0), (.slice none 0 0)] [])⟩,
     ⟨none, none, .inl (.st 4 (.s 6) (.s 21))⟩,
     ⟨none, (some 7), .inl (.mv (.c (.int .i64 15)))⟩])
   (.ret))
  (.skip)))
  (.seq (.region [⟨none, (some 22), .inl (.ld true 4 (.s 3))⟩,
    ⟨none, (some 9), .inl (.alloc 36 [(.int .i64 0), (.int .i64 0), (.int .i64 0), (.slice none 0 0)])⟩,
    ⟨none, none, .inl (.st 4 (.s 9) (.s 22))⟩])
  (.seq (.draw [⟨⟨none, (some 23), .inl (.fa (.s 3) 3)⟩, (some []), [], 0, false⟩,
    ⟨⟨none, (some 24), .inl (.ld false 1 (.s 23))⟩, (some []), [], 1, false⟩,
    ⟨⟨none, (some 25), .inl (.ld true 4 (.s 3))⟩, (some []), [], 0, false⟩,
    ⟨⟨none, (some 26), .inl (.mv (.s 1))⟩, (some []), [], 0, false⟩,
    ⟨⟨none, (some 27), .inr (.fn 45 [(.s 25), (.s 26)])⟩, (some []), [], 12, false⟩,
    ⟨⟨none, (some 28), .inl (.ld true 4 (.s 3))⟩, (some []), [], 0, false⟩,
    ⟨⟨none, (some 29), .inl (.mv (.s 2))⟩, (some []), [], 0, false⟩,
    ⟨⟨none, (some 30), .inr (.fn 45 [(.s 28), (.s 29)])⟩, (some []), [], 124, false⟩,
    ⟨⟨none, (some 31), .inl (.bin .add (.s 30) (.c (.int .i64 1)))⟩, (some []), [], 252, false⟩,
    ⟨⟨none, (some 32), .inl (.slc 3 (.s 24) (some (.s 27)) (some (.s 31)) none)⟩, (some []), [], 511, false⟩,
    ⟨⟨none, (some 33), .inr (.fn 44 [(.s 32)])⟩, (some []), [], 1023, false⟩,
    ⟨⟨none, (some 34), .inl (.fa (.s 9) 3)⟩, (some []), [], 2047, false⟩,
    ⟨⟨none, none, .inl (.st 1 (.s 34) (.s 33))⟩, (some [.at 9]), [], 4095, false⟩])
  (.seq (.region [⟨none, (some 35), .inl (.ld true 4 (.s 9))⟩,
    ⟨none, none, .inl (.st 4 (.s 6) (.s 35))⟩,
    ⟨none, (some 7), .inl (.mv (.c (.int .i64 0)))⟩])
  (.ret))))))
def k23l0 : Cd :=
  .seq (.region [⟨none, (some 5), .inl (.mv (.s 34))⟩])
  (.region [⟨none, (some 6), .inl (.alloc 80 [(.int .i64 0), (.int .i64 0), (.int .i64 0)])⟩,
    ⟨none, none, .inl (.st 3 (.s 6) (.s 35))⟩])
def k23l1 : Cd :=
  .block 1 (.seq (.region [⟨none, (some 36), .inl (.fa (.s 6) 0)⟩,
    ⟨none, (some 37), .inl (.ld false 1 (.s 36))⟩,
    ⟨none, (some 38), .inl (.bin .eql (.s 37) (.c (.int .i64 1)))⟩,
    ⟨none, (some 39), .inl (.mv (.s 38))⟩,
    ⟨(some (39, true)), (some 40), .inl (.fa (.s 1) 2)⟩,
    ⟨(some (39, true)), (some 41), .inl (.ld false 1 (.s 40))⟩,
    ⟨(some (39, true)), (some 42), .inl (.fa (.s 6) 1)⟩,
    ⟨(some (39, true)), (some 43), .inl (.ld false 1 (.s 42))⟩,
    ⟨(some (39, true)), (some 44), .inr (.fn 31 [(.s 41), (.s 43)])⟩,
    ⟨(some (39, true)), (some 45), .inl (.mv (.s 5))⟩,
    ⟨(some (39, true)), (some 46), .inl (.bin .leq (.s 44) (.s 45))⟩,
    ⟨none, (some 47), .inl (.pick (.s 39) (.s 46) (.c (.bool false)))⟩])
  (.cond (.s 47) (.seq (.region [⟨none, none, .inl (.st 1 (.s 2) (.c (.int .i64 15)))⟩])
   (.ret))
  (.skip)))
/-- gyttja/sheet.Check -/
def k23 : Cd :=
  .seq (.region [⟨none, (some 1), .inl (.box 36 4 (.s 0))⟩,
    ⟨none, (some 2), .inl (.alloc 26 [(.int .i64 0)])⟩])
  (.seq (.seq (.region [⟨none, (some 7), .inl (.fa (.s 1) 0)⟩,
    ⟨none, (some 8), .inl (.ld false 1 (.s 7))⟩,
    ⟨none, (some 9), .inr (.fn 38 [(.s 8), (.c (.int .i64 1)), (.c (.int .i64 99999))])⟩,
    ⟨none, (some 10), .inl (.not (.s 9))⟩,
    ⟨none, (some 11), .inl (.mv (.s 10))⟩,
    ⟨(some (11, false)), (some 12), .inl (.fa (.s 1) 1)⟩,
    ⟨(some (11, false)), (some 13), .inl (.ld false 1 (.s 12))⟩,
    ⟨(some (11, false)), (some 14), .inr (.fn 38 [(.s 13), (.c (.int .i64 1)), (.c (.int .i64 99))])⟩,
    ⟨(some (11, false)), (some 15), .inl (.not (.s 14))⟩,
    ⟨none, (some 16), .inl (.pick (.s 11) (.c (.bool true)) (.s 15))⟩,
    ⟨none, (some 17), .inl (.mv (.s 16))⟩,
    ⟨(some (17, false)), (some 18), .inl (.fa (.s 1) 2)⟩,
    ⟨(some (17, false)), (some 19), .inl (.ld false 1 (.s 18))⟩,
    ⟨(some (17, false)), (some 20), .inr (.fn 38 [(.s 19), (.c (.int .i64 0)), (.c (.int .i64 31))])⟩,
    ⟨(some (17, false)), (some 21), .inl (.not (.s 20))⟩,
    ⟨none, (some 22), .inl (.pick (.s 17) (.c (.bool true)) (.s 21))⟩])
  (.cond (.s 22) (.seq (.region [⟨none, none, .inl (.st 1 (.s 2) (.c (.int .i64 11)))⟩])
   (.ret))
  (.skip)))
  (.seq (.seq (.region [⟨none, (some 24), .inl (.fa (.s 1) 3)⟩,
    ⟨none, (some 25), .inl (.ld false 1 (.s 24))⟩,
    ⟨none, (some 26), .inr (.fn 32 [(.s 25)])⟩,
    ⟨none, (some 23), .inl (.mv (.s 26))⟩,
    ⟨none, (some 27), .inl (.ex (.s 23) 0)⟩,
    ⟨none, (some 28), .inl (.ex (.s 23) 1)⟩,
    ⟨none, (some 3), .inl (.mv (.s 27))⟩,
    ⟨none, (some 4), .inl (.mv (.s 28))⟩])
  (.seq (.region [⟨none, (some 29), .inl (.mv (.s 4))⟩,
    ⟨none, (some 30), .inl (.bin .neq (.s 29) (.c (.int .i64 0)))⟩])
  (.cond (.s 30) (.seq (.region [⟨none, (some 31), .inl (.mv (.s 4))⟩,
     ⟨none, none, .inl (.st 1 (.s 2) (.s 31))⟩])
   (.ret))
  (.skip))))
  (.seq (.seq (.region [⟨none, (some 32), .inl (.ld true 4 (.s 1))⟩,
    ⟨none, (some 33), .inr (.fn 40 [(.s 32)])⟩])
  (.block 0 (.rangeF (.s 33) [34, 35] k23l0 k23l1)))
  (.seq (.region [⟨none, none, .inl (.st 1 (.s 2) (.c (.int .i64 0)))⟩])
  (.ret)))))
def k24l0 : Cd :=
  .seq (.seq (.region [⟨none, (some 12), .inl (.mv (.s 6))⟩,
    ⟨none, (some 13), .inl (.mv (.s 0))⟩,
    ⟨none, (some 14), .inl (.len (.s 13))⟩,
    ⟨none, (some 15), .inl (.bin .lss (.s 12) (.s 14))⟩,
    ⟨none, (some 16), .inl (.mv (.s 15))⟩,
    ⟨(some (16, true)), (some 17), .inl (.mv (.s 5))⟩,
    ⟨none, (some 18), .inl (.pick (.s 16) (.s 17) (.c (.bool false)))⟩])
  (.cond (.s 18) (.skip)
  (.exit 0)))
  (.seq (.block 1 (.draw [⟨⟨none, (some 21), .inl (.mv (.s 0))⟩, (some []), [], 0, false⟩,
    ⟨⟨none, (some 22), .inl (.mv (.s 6))⟩, (some []), [], 0, false⟩,
    ⟨⟨none, (some 23), .inl (.ias 1 (.s 21) (.s 22))⟩, (some []), [], 3, false⟩,
    ⟨⟨none, (some 24), .inl (.ld false 1 (.s 23))⟩, (some []), [], 7, false⟩,
    ⟨⟨none, (some 25), .inl (.mv (.s 1))⟩, (some []), [], 0, false⟩,
    ⟨⟨none, (some 26), .inl (.mv (.s 6))⟩, (some []), [], 0, false⟩,
    ⟨⟨none, (some 27), .inl (.ias 1 (.s 25) (.s 26))⟩, (some []), [], 48, false⟩,
    ⟨⟨none, (some 28), .inl (.ld false 1 (.s 27))⟩, (some []), [], 112, false⟩,
    ⟨⟨none, (some 29), .inl (.bin .eql (.s 24) (.s 28))⟩, (some []), [], 255, false⟩,
    ⟨⟨none, (some 5), .inl (.mv (.s 29))⟩, (some []), [], 511, false⟩]))
  (.region [⟨none, (some 19), .inl (.mv (.s 6))⟩,
    ⟨none, (some 20), .inl (.bin .add (.s 19) (.c (.int .i64 1)))⟩,
    ⟨none, (some 6), .inl (.mv (.s 20))⟩]))
/-- gyttja/gyttjaref01.SameInts -/
def k24 : Cd :=
  .seq (.region [⟨none, (some 4), .inl (.mv (.c (.bool false)))⟩])
  (.seq (.region [⟨none, (some 7), .inl (.mv (.s 0))⟩,
    ⟨none, (some 8), .inl (.len (.s 7))⟩,
    ⟨none, (some 9), .inl (.mv (.s 1))⟩,
    ⟨none, (some 10), .inl (.len (.s 9))⟩,
    ⟨none, (some 11), .inl (.bin .eql (.s 8) (.s 10))⟩,
    ⟨none, (some 5), .inl (.mv (.s 11))⟩])
  (.seq (.seq (.region [⟨none, (some 6), .inl (.mv (.c (.int .i64 0)))⟩])
  (.block 0 (.loop k24l0)))
  (.seq (.region [⟨none, (some 30), .inl (.mv (.s 5))⟩,
    ⟨none, (some 4), .inl (.mv (.s 30))⟩])
  (.ret))))
def k25l0 : Cd :=
  .seq (.region [⟨none, (some 7), .inl (.mv (.s 16))⟩])
  (.region [⟨none, (some 8), .inl (.alloc 80 [(.int .i64 0), (.int .i64 0), (.int .i64 0)])⟩,
    ⟨none, none, .inl (.st 3 (.s 8) (.s 17))⟩])
def k25l1 : Cd :=
  .block 1 (.seq (.seq (.region [⟨none, (some 18), .inl (.fa (.s 8) 0)⟩,
    ⟨none, (some 19), .inl (.ld false 1 (.s 18))⟩,
    ⟨none, (some 20), .inl (.bin .neq (.s 19) (.c (.int .i64 1)))⟩])
  (.cond (.s 20) (.seq (.region [⟨none, (some 21), .inl (.ld false 1 (.s 3))⟩,
     ⟨none, (some 22), .inl (.ld true 3 (.s 8))⟩,
     ⟨none, (some 23), .inr (.fn 48 [(.s 21), (.s 22)])⟩,
     ⟨none, (some 9), .inl (.alloc 71 [(.bool false), (.int .i64 0), (.int .i64 0), (.slice none 0 0), (.int .i64 0), (.bool false), (.bool false)])⟩,
     ⟨none, none, .inl (.st 7 (.s 9) (.s 23))⟩])
   (.seq (.region [⟨none, (some 24), .inl (.ld false 1 (.s 5))⟩,
     ⟨none, (some 25), .inl (.fa (.s 9) 1)⟩,
     ⟨none, (some 26), .inl (.ld false 1 (.s 25))⟩,
     ⟨none, (some 27), .inl (.bin .add (.s 24) (.s 26))⟩,
     ⟨none, none, .inl (.st 1 (.s 5) (.s 27))⟩])
   (.seq (.region [⟨none, (some 28), .inl (.ld false 1 (.s 6))⟩,
     ⟨none, (some 29), .inl (.fa (.s 9) 2)⟩,
     ⟨none, (some 30), .inl (.ld false 1 (.s 29))⟩,
     ⟨none, (some 31), .inl (.bin .add (.s 28) (.s 30))⟩,
     ⟨none, none, .inl (.st 1 (.s 6) (.s 31))⟩])
   (.exit 1))))
  (.skip)))
  (.seq (.seq (.region [⟨none, (some 32), .inl (.mv (.s 7))⟩,
    ⟨none, (some 33), .inl (.bin .neq (.s 32) (.c (.int .i64 (-1))))⟩])
  (.cond (.s 33) (.draw [⟨⟨none, (some 34), .inl (.ld false 1 (.s 4))⟩, (some []), [.fr 44], 0, false⟩,
     ⟨⟨none, (some 35), .inl (.mv (.s 7))⟩, (some []), [], 0, false⟩,
     ⟨⟨none, (some 36), .inl (.fa (.s 1) 2)⟩, (some []), [], 0, false⟩,
     ⟨⟨none, (some 37), .inl (.ld false 1 (.s 36))⟩, (some []), [], 4, false⟩,
     ⟨⟨none, (some 38), .inl (.fa (.s 8) 1)⟩, (some []), [], 0, false⟩,
     ⟨⟨none, (some 39), .inl (.ld false 1 (.s 38))⟩, (some []), [], 16, false⟩,
     ⟨⟨none, (some 40), .inr (.fn 31 [(.s 37), (.s 39)])⟩, (some []), [], 60, false⟩,
     ⟨⟨none, (some 41), .inl (.ld false 1 (.s 5))⟩, (some []), [], 0, false⟩,
     ⟨⟨none, (some 42), .inl (.ld false 1 (.s 6))⟩, (some []), [], 0, false⟩,
     ⟨⟨none, (some 43), .inl (.bld [(.int .i64 0), (.int .i64 0), (.int .i64 0), (.int .i64 0)] [(0, 1, (.s 35)), (1, 1, (.s 40)), (2, 1, (.s 41)), (3, 1, (.s 42))])⟩, (some []), [], 510, false⟩,
     ⟨⟨none, (some 44), .inl (.bs 41 4 1 [(.int .i64 0), (.int .i64 0), (.int .i64 0), (.int .i64 0)] [(0, (.s 43))])⟩, (some [.fr 44]), [], 1022, false⟩,
     ⟨⟨none, (some 45), .inl (.app 41 4 32 (.s 34) (.s 44))⟩, (some [.fr 45, .at 34]), [], 2047, false⟩,
     ⟨⟨none, none, .inl (.st 1 (.s 4) (.s 45))⟩, (some [.at 4]), [], 4095, false⟩])
  (.skip)))
  (.region [⟨none, none, .inl (.st 1 (.s 5) (.c (.int .i64 0)))⟩,
    ⟨none, none, .inl (.st 1 (.s 6) (.c (.int .i64 0)))⟩])))
/-- gyttja/sheet.Spans -/
def k25 : Cd :=
  .seq (.region [⟨none, (some 1), .inl (.box 36 4 (.s 0))⟩,
    ⟨none, (some 2), .inl (.mv (.c (.slice none 0 0)))⟩])
  (.seq (.seq (.region [⟨none, (some 10), .inl (.ld true 4 (.s 1))⟩,
    ⟨none, (some 11), .inr (.fn 23 [(.s 10)])⟩,
    ⟨none, (some 12), .inl (.bin .neq (.s 11) (.c (.int .i64 0)))⟩])
  (.cond (.s 12) (.seq (.region [⟨none, (some 2), .inl (.mv (.c (.slice none 0 0)))⟩])
   (.ret))
  (.skip)))
  (.seq (.region [⟨none, (some 13), .inr (.fn 47 [])⟩,
    ⟨none, (some 3), .inl (.alloc 86 [(.map none)])⟩,
    ⟨none, none, .inl (.st 1 (.s 3) (.s 13))⟩])
  (.seq (.region [⟨none, (some 4), .inl (.alloc 57 [(.slice none 0 0)])⟩])
  (.seq (.region [⟨none, (some 5), .inl (.alloc 3 [(.int .i64 0)])⟩,
    ⟨none, (some 6), .inl (.alloc 3 [(.int .i64 0)])⟩,
    ⟨none, none, .inl (.st 1 (.s 5) (.c (.int .i64 0)))⟩,
    ⟨none, none, .inl (.st 1 (.s 6) (.c (.int .i64 0)))⟩])
  (.seq (.seq (.region [⟨none, (some 14), .inl (.ld true 4 (.s 1))⟩,
    ⟨none, (some 15), .inr (.fn 40 [(.s 14)])⟩])
  (.block 0 (.rangeF (.s 15) [16, 17] k25l0 k25l1)))
  (.seq (.region [⟨none, (some 46), .inl (.ld false 1 (.s 4))⟩,
    ⟨none, (some 2), .inl (.mv (.s 46))⟩])
  (.ret)))))))
def k26l0 : Cd :=
  .seq (.seq (.region [⟨none, (some 12), .inl (.mv (.s 6))⟩,
    ⟨none, (some 13), .inl (.mv (.s 0))⟩,
    ⟨none, (some 14), .inl (.len (.s 13))⟩,
    ⟨none, (some 15), .inl (.bin .lss (.s 12) (.s 14))⟩,
    ⟨none, (some 16), .inl (.mv (.s 15))⟩,
    ⟨(some (16, true)), (some 17), .inl (.mv (.s 5))⟩,
    ⟨none, (some 18), .inl (.pick (.s 16) (.s 17) (.c (.bool false)))⟩])
  (.cond (.s 18) (.skip)
  (.exit 0)))
  (.seq (.block 1 (.draw [⟨⟨none, (some 21), .inl (.mv (.s 0))⟩, (some []), [], 0, false⟩,
    ⟨⟨none, (some 22), .inl (.mv (.s 6))⟩, (some []), [], 0, false⟩,
    ⟨⟨none, (some 23), .inl (.ias 4 (.s 21) (.s 22))⟩, (some []), [], 3, false⟩,
    ⟨⟨none, (some 24), .inl (.ld true 4 (.s 23))⟩, (some []), [], 7, false⟩,
    ⟨⟨none, (some 25), .inl (.mv (.s 1))⟩, (some []), [], 0, false⟩,
    ⟨⟨none, (some 26), .inl (.mv (.s 6))⟩, (some []), [], 0, false⟩,
    ⟨⟨none, (some 27), .inl (.ias 4 (.s 25) (.s 26))⟩, (some []), [], 48, false⟩,
    ⟨⟨none, (some 28), .inl (.ld true 4 (.s 27))⟩, (some []), [], 112, false⟩,
    ⟨⟨none, (some 29), .inl (.eq false (.cells [.int, .int, .int, .int]) (.s 24) (.s 28))⟩, (some []), [], 255, false⟩,
    ⟨⟨none, (some 5), .inl (.mv (.s 29))⟩, (some []), [], 511, false⟩]))
  (.region [⟨none, (some 19), .inl (.mv (.s 6))⟩,
    ⟨none, (some 20), .inl (.bin .add (.s 19) (.c (.int .i64 1)))⟩,
    ⟨none, (some 6), .inl (.mv (.s 20))⟩]))
/-- gyttja/gyttjaref01.SameSpans -/
def k26 : Cd :=
  .seq (.region [⟨none, (some 4), .inl (.mv (.c (.bool false)))⟩])
  (.seq (.region [⟨none, (some 7), .inl (.mv (.s 0))⟩,
    ⟨none, (some 8), .inl (.len (.s 7))⟩,
    ⟨none, (some 9), .inl (.mv (.s 1))⟩,
    ⟨none, (some 10), .inl (.len (.s 9))⟩,
    ⟨none, (some 11), .inl (.bin .eql (.s 8) (.s 10))⟩,
    ⟨none, (some 5), .inl (.mv (.s 11))⟩])
  (.seq (.seq (.region [⟨none, (some 6), .inl (.mv (.c (.int .i64 0)))⟩])
  (.block 0 (.loop k26l0)))
  (.seq (.region [⟨none, (some 30), .inl (.mv (.s 5))⟩,
    ⟨none, (some 4), .inl (.mv (.s 30))⟩])
  (.ret))))
/-- gyttja/gyttjalaw01.example -/
def k29 : Cd :=
  .seq (.region [⟨none, (some 0), .inl (.alloc 36 [(.int .i64 0), (.int .i64 0), (.int .i64 0), (.slice none 0 0)])⟩])
  (.seq (.region [⟨none, (some 1), .inl (.bld [(.int .i64 0), (.int .i64 0), (.int .i64 0)] [(0, 1, (.c (.int .i64 1))), (1, 1, (.c (.int .i64 5)))])⟩,
    ⟨none, (some 2), .inl (.bld [(.int .i64 0), (.int .i64 0), (.int .i64 0)] [(0, 1, (.c (.int .i64 2))), (1, 1, (.c (.int .i64 120)))])⟩,
    ⟨none, (some 3), .inl (.bld [(.int .i64 0), (.int .i64 0), (.int .i64 0)] [(0, 1, (.c (.int .i64 3))), (1, 1, (.c (.int .i64 80))), (2, 1, (.c (.int .i64 95)))])⟩,
    ⟨none, (some 4), .inl (.bld [(.int .i64 0), (.int .i64 0), (.int .i64 0)] [(0, 1, (.c (.int .i64 1))), (1, 1, (.c (.int .i64 6)))])⟩,
    ⟨none, (some 5), .inl (.bld [(.int .i64 0), (.int .i64 0), (.int .i64 0)] [(0, 1, (.c (.int .i64 4))), (1, 1, (.c (.int .i64 2)))])⟩,
    ⟨none, (some 6), .inl (.bld [(.int .i64 0), (.int .i64 0), (.int .i64 0)] [(0, 1, (.c (.int .i64 5))), (1, 1, (.c (.int .i64 300)))])⟩,
    ⟨none, (some 7), .inl (.bld [(.int .i64 0), (.int .i64 0), (.int .i64 0)] [(0, 1, (.c (.int .i64 6))), (1, 1, (.c (.int .i64 1))), (2, 1, (.c (.int .i64 3)))])⟩,
    ⟨none, (some 8), .inl (.bld [(.int .i64 0), (.int .i64 0), (.int .i64 0)] [(0, 1, (.c (.int .i64 1))), (1, 1, (.c (.int .i64 9)))])⟩,
    ⟨none, (some 9), .inl (.bs 80 3 8 [(.int .i64 0), (.int .i64 0), (.int .i64 0)] [(0, (.s 1)), (1, (.s 2)), (2, (.s 3)), (3, (.s 4)), (4, (.s 5)), (5, (.s 6)), (6, (.s 7)), (7, (.s 8))])⟩,
    ⟨none, (some 10), .inl (.bld [(.int .i64 0), (.int .i64 0), (.int .i64 0), (.slice none 0 0)] [(0, 1, (.c (.int .i64 7))), (1, 1, (.c (.int .i64 3))), (2, 1, (.c (.int .i64 2))), (3, 1, (.s 9))])⟩,
    ⟨none, none, .inl (.st 4 (.s 0) (.s 10))⟩])
  (.ret))
/-- gyttja/sheet.Parse -/
def k30 : Cd :=
  .seq (.region [⟨none, (some 2), .inl (.alloc 36 [(.int .i64 0), (.int .i64 0), (.int .i64 0), (.slice none 0 0)])⟩,
    ⟨none, (some 3), .inl (.alloc 3 [(.int .i64 0)])⟩,
    ⟨none, (some 4), .inl (.alloc 26 [(.int .i64 0)])⟩])
  (.seq (.region [⟨none, (some 5), .inl (.mkf (.func 52) [] [(.s 2), (.s 3), (.s 4)])⟩,
    ⟨none, none, .inr (.dfr (.s 5) [])⟩])
  (.seq (.seq (.region [⟨none, (some 6), .inl (.mv (.s 0))⟩,
    ⟨none, (some 7), .inl (.lens (.s 6))⟩,
    ⟨none, (some 8), .inl (.bin .gtr (.s 7) (.c (.int .i64 8000)))⟩])
  (.cond (.s 8) (.seq (.region [⟨none, (some 9), .inl (.bld [(.int .i64 0), (.int .i64 0), (.int .i64 0), (.slice none 0 0)] [])⟩,
     ⟨none, none, .inl (.st 4 (.s 2) (.s 9))⟩,
     ⟨none, none, .inl (.st 1 (.s 3) (.c (.int .i64 0)))⟩,
     ⟨none, none, .inl (.st 1 (.s 4) (.c (.int .i64 2)))⟩])
   (.ret))
  (.skip)))
  (.seq (.region [⟨none, (some 10), .inl (.mv (.s 0))⟩,
    ⟨none, (some 11), .inr (.fn 53 [(.s 10)])⟩,
    ⟨none, none, .inl (.st 4 (.s 2) (.s 11))⟩])
  (.seq (.seq (.region [⟨none, (some 12), .inl (.ld true 4 (.s 2))⟩,
    ⟨none, (some 13), .inr (.fn 23 [(.s 12)])⟩,
    ⟨none, none, .inl (.st 1 (.s 4) (.s 13))⟩])
  (.seq (.region [⟨none, (some 14), .inl (.ld false 1 (.s 4))⟩,
    ⟨none, (some 15), .inl (.bin .neq (.s 14) (.c (.int .i64 0)))⟩])
  (.cond (.s 15) (.seq (.draw [⟨⟨none, (some 16), .inl (.bld [(.int .i64 0), (.int .i64 0), (.int .i64 0), (.slice none 0 0)] [])⟩, (some []), [], 0, false⟩,
     ⟨⟨none, (some 17), .inl (.ld false 1 (.s 4))⟩, (some []), [.at 2, .at 3], 0, false⟩,
     ⟨⟨none, none, .inl (.st 4 (.s 2) (.s 16))⟩, (some [.at 2]), [], 1, false⟩,
     ⟨⟨none, none, .inl (.st 1 (.s 3) (.c (.int .i64 0)))⟩, (some [.at 3]), [], 5, false⟩,
     ⟨⟨none, none, .inl (.st 1 (.s 4) (.s 17))⟩, (some [.at 4]), [], 15, false⟩])
   (.ret))
  (.skip))))
  (.seq (.region [⟨none, (some 18), .inl (.ld true 4 (.s 2))⟩,
    ⟨none, none, .inl (.st 4 (.s 2) (.s 18))⟩,
    ⟨none, none, .inl (.st 1 (.s 3) (.c (.int .i64 0)))⟩,
    ⟨none, none, .inl (.st 1 (.s 4) (.c (.int .i64 0)))⟩])
  (.ret))))))
/-- gyttja/sheet.Mark -/
def k31 : Cd :=
  .seq (.region [⟨none, (some 4), .inl (.mv (.c (.int .i64 0)))⟩])
  (.seq (.seq (.region [⟨none, (some 5), .inl (.mv (.s 0))⟩,
    ⟨none, (some 6), .inr (.fn 38 [(.s 5), (.c (.int .i64 0)), (.c (.int .i64 31))])⟩,
    ⟨none, (some 7), .inl (.not (.s 6))⟩,
    ⟨none, (some 8), .inl (.mv (.s 7))⟩,
    ⟨(some (8, false)), (some 9), .inl (.mv (.s 1))⟩,
    ⟨(some (8, false)), (some 10), .inr (.fn 38 [(.s 9), (.c (.int .i64 0)), (.c (.int .i64 63))])⟩,
    ⟨(some (8, false)), (some 11), .inl (.not (.s 10))⟩,
    ⟨none, (some 12), .inl (.pick (.s 8) (.c (.bool true)) (.s 11))⟩])
  (.cond (.s 12) (.seq (.region [⟨none, (some 4), .inl (.mv (.c (.int .i64 (-1))))⟩])
   (.ret))
  (.skip)))
  (.seq (.region [⟨none, (some 13), .inl (.mv (.s 0))⟩,
    ⟨none, (some 14), .inl (.bin .mul (.c (.int .i64 64)) (.s 13))⟩,
    ⟨none, (some 15), .inl (.mv (.s 1))⟩,
    ⟨none, (some 16), .inl (.bin .add (.s 14) (.s 15))⟩,
    ⟨none, (some 17), .inl (.bin .add (.s 16) (.c (.int .i64 1)))⟩,
    ⟨none, (some 4), .inl (.mv (.s 17))⟩])
  (.ret)))
def k32l0 : Cd :=
  .seq (.region [⟨none, (some 20), .inl (.bin .lss (.s 19) (.s 18))⟩])
  (.seq (.cond (.s 20) (.skip)
  (.exit 0))
  (.seq (.block 1 (.seq (.region [⟨none, (some 21), .inl (.ias 3 (.s 17) (.s 19))⟩,
    ⟨none, (some 22), .inl (.ld true 3 (.s 21))⟩,
    ⟨none, (some 8), .inl (.alloc 80 [(.int .i64 0), (.int .i64 0), (.int .i64 0)])⟩,
    ⟨none, none, .inl (.st 3 (.s 8) (.s 22))⟩])
  (.seq (.region [⟨none, (some 23), .inl (.mv (.s 4))⟩,
    ⟨none, (some 24), .inl (.ld true 3 (.s 8))⟩,
    ⟨none, (some 25), .inr (.fn 48 [(.s 23), (.s 24)])⟩,
    ⟨none, (some 9), .inl (.alloc 71 [(.bool false), (.int .i64 0), (.int .i64 0), (.slice none 0 0), (.int .i64 0), (.bool false), (.bool false)])⟩,
    ⟨none, none, .inl (.st 7 (.s 9) (.s 25))⟩])
  (.seq (.seq (.region [⟨none, (some 26), .inl (.fa (.s 9) 0)⟩,
    ⟨none, (some 27), .inl (.ld false 1 (.s 26))⟩,
    ⟨none, (some 28), .inl (.not (.s 27))⟩])
  (.cond (.s 28) (.seq (.region [⟨none, (some 2), .inl (.mv (.c (.slice none 0 0)))⟩,
     ⟨none, (some 3), .inl (.mv (.c (.int .i64 10)))⟩])
   (.ret))
  (.skip)))
  (.seq (.region [⟨none, (some 29), .inl (.mv (.s 6))⟩,
    ⟨none, (some 30), .inl (.fa (.s 9) 2)⟩,
    ⟨none, (some 31), .inl (.ld false 1 (.s 30))⟩,
    ⟨none, (some 32), .inl (.bin .add (.s 29) (.s 31))⟩,
    ⟨none, (some 6), .inl (.mv (.s 32))⟩])
  (.region [⟨none, (some 33), .inl (.mv (.s 5))⟩,
    ⟨none, (some 34), .inl (.ld true 7 (.s 9))⟩,
    ⟨none, (some 35), .inl (.bs 71 7 1 [(.bool false), (.int .i64 0), (.int .i64 0), (.slice none 0 0), (.int .i64 0), (.bool false), (.bool false)] [(0, (.s 34))])⟩,
    ⟨none, (some 36), .inl (.app 71 7 64 (.s 33) (.s 35))⟩,
    ⟨none, (some 5), .inl (.mv (.s 36))⟩]))))))
  (.region [⟨none, (some 37), .inl (.bin .add (.s 19) (.c (.int .i64 1)))⟩,
    ⟨none, (some 19), .inl (.mv (.s 37))⟩])))
/-- gyttja/sheet.natures -/
def k32 : Cd :=
  .seq (.region [⟨none, (some 2), .inl (.mv (.c (.slice none 0 0)))⟩,
    ⟨none, (some 3), .inl (.mv (.c (.int .i64 0)))⟩])
  (.seq (.seq (.region [⟨none, (some 10), .inl (.mv (.s 0))⟩,
    ⟨none, (some 11), .inl (.len (.s 10))⟩,
    ⟨none, (some 12), .inl (.bin .gtr (.s 11) (.c (.int .i64 400)))⟩])
  (.cond (.s 12) (.seq (.region [⟨none, (some 2), .inl (.mv (.c (.slice none 0 0)))⟩,
     ⟨none, (some 3), .inl (.mv (.c (.int .i64 2)))⟩])
   (.ret))
  (.skip)))
  (.seq (.region [⟨none, (some 13), .inr (.fn 47 [])⟩,
    ⟨none, (some 4), .inl (.mv (.s 13))⟩])
  (.seq (.region [⟨none, (some 14), .inl (.mv (.s 0))⟩,
    ⟨none, (some 15), .inl (.len (.s 14))⟩,
    ⟨none, (some 16), .inl (.mks 71 7 64 [(.bool false), (.int .i64 0), (.int .i64 0), (.slice none 0 0), (.int .i64 0), (.bool false), (.bool false)] (.c (.int .i64 0)) (.s 15))⟩,
    ⟨none, (some 5), .inl (.mv (.s 16))⟩])
  (.seq (.region [⟨none, (some 6), .inl (.mv (.c (.int .i64 0)))⟩])
  (.seq (.seq (.region [⟨none, (some 17), .inl (.mv (.s 0))⟩,
    ⟨none, (some 18), .inl (.len (.s 17))⟩,
    ⟨none, (some 19), .inl (.mv (.c (.int .i64 0)))⟩])
  (.block 0 (.loop k32l0)))
  (.seq (.seq (.region [⟨none, (some 38), .inl (.mv (.s 6))⟩,
    ⟨none, (some 39), .inl (.bin .gtr (.s 38) (.c (.int .i64 100000)))⟩])
  (.cond (.s 39) (.seq (.region [⟨none, (some 2), .inl (.mv (.c (.slice none 0 0)))⟩,
     ⟨none, (some 3), .inl (.mv (.c (.int .i64 2)))⟩])
   (.ret))
  (.skip)))
  (.seq (.region [⟨none, (some 40), .inl (.mv (.s 5))⟩,
    ⟨none, (some 2), .inl (.mv (.s 40))⟩,
    ⟨none, (some 3), .inl (.mv (.c (.int .i64 0)))⟩])
  (.ret))))))))
/-- gyttja/sheet.layered -/
def k33 : Cd :=
  .seq (.region [⟨none, (some 2), .inl (.mv (.c (.slice none 0 0)))⟩,
    ⟨none, (some 3), .inl (.mv (.c (.int .i64 0)))⟩])
  (.seq (.region [⟨none, (some 7), .inl (.mv (.s 0))⟩,
    ⟨none, (some 8), .inr (.fn 32 [(.s 7)])⟩,
    ⟨none, (some 6), .inl (.mv (.s 8))⟩,
    ⟨none, (some 9), .inl (.ex (.s 6) 0)⟩,
    ⟨none, (some 10), .inl (.ex (.s 6) 1)⟩,
    ⟨none, (some 4), .inl (.mv (.s 9))⟩,
    ⟨none, (some 5), .inl (.mv (.s 10))⟩])
  (.seq (.seq (.region [⟨none, (some 11), .inl (.mv (.s 5))⟩,
    ⟨none, (some 12), .inl (.bin .neq (.s 11) (.c (.int .i64 0)))⟩])
  (.cond (.s 12) (.seq (.region [⟨none, (some 13), .inl (.mv (.s 5))⟩,
     ⟨none, (some 2), .inl (.mv (.c (.slice none 0 0)))⟩,
     ⟨none, (some 3), .inl (.mv (.s 13))⟩])
   (.ret))
  (.skip)))
  (.seq (.seq (.region [⟨none, (some 14), .inl (.mv (.s 4))⟩,
    ⟨none, (some 15), .inr (.fn 54 [(.s 14), (.f 55)])⟩])
  (.cond (.s 15) (.seq (.region [⟨none, (some 2), .inl (.mv (.c (.slice none 0 0)))⟩,
     ⟨none, (some 3), .inl (.mv (.c (.int .i64 13)))⟩])
   (.ret))
  (.skip)))
  (.seq (.region [⟨none, (some 16), .inl (.mv (.s 4))⟩,
    ⟨none, (some 2), .inl (.mv (.s 16))⟩,
    ⟨none, (some 3), .inl (.mv (.c (.int .i64 0)))⟩])
  (.ret)))))
def k34l0 : Cd :=
  .seq (.region [⟨none, (some 9), .inl (.bin .lss (.s 8) (.s 7))⟩])
  (.seq (.cond (.s 9) (.skip)
  (.exit 0))
  (.seq (.block 1 (.seq (.region [⟨none, (some 10), .inl (.ias 1 (.s 6) (.s 8))⟩,
    ⟨none, (some 11), .inl (.ld false 1 (.s 10))⟩,
    ⟨none, (some 5), .inl (.mv (.s 11))⟩])
  (.region [⟨none, (some 12), .inl (.mv (.s 3))⟩,
    ⟨none, (some 13), .inl (.mv (.s 5))⟩,
    ⟨none, (some 14), .inl (.bin .add (.s 12) (.s 13))⟩,
    ⟨none, (some 3), .inl (.mv (.s 14))⟩])))
  (.region [⟨none, (some 15), .inl (.bin .add (.s 8) (.c (.int .i64 1)))⟩,
    ⟨none, (some 8), .inl (.mv (.s 15))⟩])))
/-- gyttja/sheet.sum -/
def k34 : Cd :=
  .seq (.region [⟨none, (some 2), .inl (.mv (.c (.int .i64 0)))⟩])
  (.seq (.region [⟨none, (some 3), .inl (.mv (.c (.int .i64 0)))⟩])
  (.seq (.seq (.region [⟨none, (some 6), .inl (.mv (.s 0))⟩,
    ⟨none, (some 7), .inl (.len (.s 6))⟩,
    ⟨none, (some 8), .inl (.mv (.c (.int .i64 0)))⟩])
  (.block 0 (.loop k34l0)))
  (.seq (.region [⟨none, (some 16), .inl (.mv (.s 3))⟩,
    ⟨none, (some 2), .inl (.mv (.s 16))⟩])
  (.ret))))
/-- gyttja/pick.Index -/
def k35 : Cd :=
  .seq (.region [⟨none, (some 6), .inl (.mv (.c (.int .i64 0)))⟩])
  (.seq (.seq (.region [⟨none, (some 8), .inl (.mv (.s 0))⟩,
    ⟨none, (some 9), .inl (.len (.s 8))⟩,
    ⟨none, (some 10), .inl (.bin .eql (.s 9) (.c (.int .i64 0)))⟩,
    ⟨none, (some 11), .inl (.mv (.s 10))⟩,
    ⟨(some (11, false)), (some 12), .inl (.mv (.s 2))⟩,
    ⟨(some (11, false)), (some 13), .inl (.bin .lss (.s 12) (.c (.int .i64 1)))⟩,
    ⟨none, (some 14), .inl (.pick (.s 11) (.c (.bool true)) (.s 13))⟩])
  (.cond (.s 14) (.seq (.region [⟨none, (some 6), .inl (.mv (.c (.int .i64 0)))⟩])
   (.ret))
  (.skip)))
  (.seq (.region [⟨none, (some 15), .inl (.mv (.s 0))⟩,
    ⟨none, (some 16), .inl (.mv (.s 1))⟩,
    ⟨none, (some 17), .inl (.mv (.s 0))⟩,
    ⟨none, (some 18), .inl (.len (.s 17))⟩,
    ⟨none, (some 19), .inl (.bin .rem (.s 16) (.s 18))⟩,
    ⟨none, (some 20), .inl (.ias 1 (.s 15) (.s 19))⟩,
    ⟨none, (some 21), .inl (.ld false 1 (.s 20))⟩,
    ⟨none, (some 22), .inl (.mv (.s 2))⟩,
    ⟨none, (some 23), .inl (.bin .rem (.s 21) (.s 22))⟩,
    ⟨none, (some 7), .inl (.mv (.s 23))⟩])
  (.seq (.seq (.region [⟨none, (some 24), .inl (.mv (.s 7))⟩,
    ⟨none, (some 25), .inl (.bin .lss (.s 24) (.c (.int .i64 0)))⟩])
  (.cond (.s 25) (.region [⟨none, (some 26), .inl (.mv (.s 7))⟩,
     ⟨none, (some 27), .inl (.mv (.s 2))⟩,
     ⟨none, (some 28), .inl (.bin .add (.s 26) (.s 27))⟩,
     ⟨none, (some 7), .inl (.mv (.s 28))⟩])
  (.skip)))
  (.seq (.region [⟨none, (some 29), .inl (.mv (.s 7))⟩,
    ⟨none, (some 6), .inl (.mv (.s 29))⟩])
  (.ret)))))
/-- gyttja/sheet.yearsOf -/
def k36 : Cd :=
  .seq (.region [⟨none, (some 2), .inl (.box 71 7 (.s 0))⟩,
    ⟨none, (some 4), .inl (.mv (.c (.slice none 0 0)))⟩])
  (.seq (.seq (.region [⟨none, (some 5), .inl (.fa (.s 2) 5)⟩,
    ⟨none, (some 6), .inl (.ld false 1 (.s 5))⟩])
  (.cond (.s 6) (.seq (.region [⟨none, (some 7), .inl (.mv (.s 1))⟩,
     ⟨none, (some 8), .inl (.mks 3 1 8 [(.int .i64 0)] (.s 7) (.s 7))⟩,
     ⟨none, (some 4), .inl (.mv (.s 8))⟩])
   (.ret))
  (.skip)))
  (.seq (.seq (.region [⟨none, (some 9), .inl (.mv (.s 1))⟩,
    ⟨none, (some 10), .inl (.fa (.s 2) 3)⟩,
    ⟨none, (some 11), .inl (.ld false 1 (.s 10))⟩,
    ⟨none, (some 12), .inl (.len (.s 11))⟩,
    ⟨none, (some 13), .inl (.bin .lss (.s 9) (.s 12))⟩])
  (.cond (.s 13) (.seq (.region [⟨none, (some 14), .inl (.fa (.s 2) 3)⟩,
     ⟨none, (some 15), .inl (.ld false 1 (.s 14))⟩,
     ⟨none, (some 16), .inr (.fn 34 [(.s 15)])⟩,
     ⟨none, (some 17), .inl (.bs 3 1 1 [(.int .i64 0)] [(0, (.s 16))])⟩,
     ⟨none, (some 4), .inl (.mv (.s 17))⟩])
   (.ret))
  (.skip)))
  (.seq (.region [⟨none, (some 18), .inl (.fa (.s 2) 3)⟩,
    ⟨none, (some 19), .inl (.ld false 1 (.s 18))⟩,
    ⟨none, (some 4), .inl (.mv (.s 19))⟩])
  (.ret))))
/-- gyttja/sheet.hidden -/
def k37 : Cd :=
  .seq (.region [⟨none, (some 2), .inl (.mv (.c (.int .i64 0)))⟩])
  (.seq (.region [⟨none, (some 4), .inl (.mv (.s 0))⟩,
    ⟨none, (some 5), .inr (.fn 56 [(.s 4), (.f 57)])⟩,
    ⟨none, (some 3), .inl (.mv (.s 5))⟩])
  (.seq (.seq (.region [⟨none, (some 6), .inl (.mv (.s 3))⟩,
    ⟨none, (some 7), .inl (.bin .lss (.s 6) (.c (.int .i64 0)))⟩])
  (.cond (.s 7) (.seq (.region [⟨none, (some 8), .inl (.mv (.s 0))⟩,
     ⟨none, (some 9), .inl (.len (.s 8))⟩,
     ⟨none, (some 2), .inl (.mv (.s 9))⟩])
   (.ret))
  (.skip)))
  (.seq (.region [⟨none, (some 10), .inl (.mv (.s 3))⟩,
    ⟨none, (some 2), .inl (.mv (.s 10))⟩])
  (.ret))))
/-- gyttja/sheet.within -/
def k38 : Cd :=
  .seq (.region [⟨none, (some 6), .inl (.mv (.c (.bool false)))⟩])
  (.seq (.region [⟨none, (some 7), .inl (.mv (.s 1))⟩,
    ⟨none, (some 8), .inl (.mv (.s 0))⟩,
    ⟨none, (some 9), .inl (.bin .leq (.s 7) (.s 8))⟩,
    ⟨none, (some 10), .inl (.mv (.s 9))⟩,
    ⟨(some (10, true)), (some 11), .inl (.mv (.s 0))⟩,
    ⟨(some (10, true)), (some 12), .inl (.mv (.s 2))⟩,
    ⟨(some (10, true)), (some 13), .inl (.bin .leq (.s 11) (.s 12))⟩,
    ⟨none, (some 14), .inl (.pick (.s 10) (.s 13) (.c (.bool false)))⟩,
    ⟨none, (some 6), .inl (.mv (.s 14))⟩])
  (.ret))
/-- gyttja/sheet.startsWith -/
def k39 : Cd :=
  .seq (.region [⟨none, (some 4), .inl (.mv (.c (.bool false)))⟩])
  (.seq (.region [⟨none, (some 5), .inl (.mv (.s 1))⟩,
    ⟨none, (some 6), .inl (.len (.s 5))⟩,
    ⟨none, (some 7), .inl (.mv (.s 0))⟩,
    ⟨none, (some 8), .inl (.len (.s 7))⟩,
    ⟨none, (some 9), .inl (.bin .leq (.s 6) (.s 8))⟩,
    ⟨none, (some 10), .inl (.mv (.s 9))⟩,
    ⟨(some (10, true)), (some 11), .inl (.mv (.s 0))⟩,
    ⟨(some (10, true)), (some 12), .inl (.mv (.s 1))⟩,
    ⟨(some (10, true)), (some 13), .inl (.len (.s 12))⟩,
    ⟨(some (10, true)), (some 14), .inl (.slc 1 (.s 11) none (some (.s 13)) none)⟩,
    ⟨(some (10, true)), (some 15), .inl (.mv (.s 1))⟩,
    ⟨(some (10, true)), (some 16), .inr (.fn 58 [(.s 14), (.s 15)])⟩,
    ⟨none, (some 17), .inl (.pick (.s 10) (.s 16) (.c (.bool false)))⟩,
    ⟨none, (some 4), .inl (.mv (.s 17))⟩])
  (.ret))
/-- gyttja/sheet.rowsBelow -/
def k40 : Cd :=
  .seq (.region [⟨none, (some 1), .inl (.box 36 4 (.s 0))⟩,
    ⟨none, (some 2), .inl (.mv (.c .nilFunc))⟩])
  (.seq (.region [⟨none, (some 3), .inl (.mkf (.func 59) [] [(.s 1)])⟩,
    ⟨none, (some 2), .inl (.mv (.s 3))⟩])
  (.ret))
/-- gyttja/sheet.checkEnds -/
def k41 : Cd :=
  .seq (.region [⟨none, (some 3), .inl (.box 36 4 (.s 0))⟩,
    ⟨none, (some 6), .inl (.mv (.c (.int .i64 0)))⟩])
  (.seq (.seq (.region [⟨none, (some 8), .inl (.ld true 4 (.s 3))⟩,
    ⟨none, (some 9), .inr (.fn 23 [(.s 8)])⟩,
    ⟨none, (some 7), .inl (.mv (.s 9))⟩])
  (.seq (.region [⟨none, (some 10), .inl (.mv (.s 7))⟩,
    ⟨none, (some 11), .inl (.bin .neq (.s 10) (.c (.int .i64 0)))⟩])
  (.cond (.s 11) (.seq (.region [⟨none, (some 12), .inl (.mv (.s 7))⟩,
     ⟨none, (some 6), .inl (.mv (.s 12))⟩])
   (.ret))
  (.skip))))
  (.seq (.seq (.region [⟨none, (some 13), .inl (.ld true 4 (.s 3))⟩,
    ⟨none, (some 14), .inl (.mv (.s 1))⟩,
    ⟨none, (some 15), .inr (.fn 45 [(.s 13), (.s 14)])⟩,
    ⟨none, (some 16), .inl (.bin .eql (.s 15) (.c (.int .i64 (-1))))⟩,
    ⟨none, (some 17), .inl (.mv (.s 16))⟩,
    ⟨(some (17, false)), (some 18), .inl (.ld true 4 (.s 3))⟩,
    ⟨(some (17, false)), (some 19), .inl (.mv (.s 2))⟩,
    ⟨(some (17, false)), (some 20), .inr (.fn 45 [(.s 18), (.s 19)])⟩,
    ⟨(some (17, false)), (some 21), .inl (.bin .eql (.s 20) (.c (.int .i64 (-1))))⟩,
    ⟨none, (some 22), .inl (.pick (.s 17) (.c (.bool true)) (.s 21))⟩])
  (.cond (.s 22) (.seq (.region [⟨none, (some 6), .inl (.mv (.c (.int .i64 3)))⟩])
   (.ret))
  (.skip)))
  (.seq (.region [⟨none, (some 6), .inl (.mv (.c (.int .i64 0)))⟩])
  (.ret))))
def k42l0 : Cd :=
  .seq (.region [⟨none, (some 13), .inl (.bin .lss (.s 12) (.s 11))⟩])
  (.seq (.cond (.s 13) (.skip)
  (.exit 0))
  (.seq (.block 1 (.seq (.region [⟨none, (some 14), .inl (.ias 4 (.s 10) (.s 12))⟩,
    ⟨none, (some 15), .inl (.ld true 4 (.s 14))⟩,
    ⟨none, (some 9), .inl (.alloc 41 [(.int .i64 0), (.int .i64 0), (.int .i64 0), (.int .i64 0)])⟩,
    ⟨none, none, .inl (.st 4 (.s 9) (.s 15))⟩])
  (.seq (.region [⟨none, (some 16), .inl (.mv (.s 1))⟩,
    ⟨none, (some 17), .inl (.fa (.s 9) 0)⟩,
    ⟨none, (some 18), .inl (.ld false 1 (.s 17))⟩,
    ⟨none, (some 19), .inl (.bin .leq (.s 16) (.s 18))⟩,
    ⟨none, (some 20), .inl (.mv (.s 19))⟩,
    ⟨(some (20, true)), (some 21), .inl (.fa (.s 9) 1)⟩,
    ⟨(some (20, true)), (some 22), .inl (.ld false 1 (.s 21))⟩,
    ⟨(some (20, true)), (some 23), .inl (.mv (.s 2))⟩,
    ⟨(some (20, true)), (some 24), .inl (.bin .leq (.s 22) (.s 23))⟩,
    ⟨none, (some 25), .inl (.pick (.s 20) (.s 24) (.c (.bool false)))⟩])
  (.cond (.s 25) (.seq (.region [⟨none, (some 26), .inl (.mv (.s 6))⟩,
     ⟨none, (some 27), .inl (.fa (.s 9) 2)⟩,
     ⟨none, (some 28), .inl (.ld false 1 (.s 27))⟩,
     ⟨none, (some 29), .inl (.bin .add (.s 26) (.s 28))⟩,
     ⟨none, (some 6), .inl (.mv (.s 29))⟩])
   (.region [⟨none, (some 30), .inl (.mv (.s 7))⟩,
     ⟨none, (some 31), .inl (.fa (.s 9) 3)⟩,
     ⟨none, (some 32), .inl (.ld false 1 (.s 31))⟩,
     ⟨none, (some 33), .inl (.bin .add (.s 30) (.s 32))⟩,
     ⟨none, (some 7), .inl (.mv (.s 33))⟩]))
  (.skip)))))
  (.region [⟨none, (some 34), .inl (.bin .add (.s 12) (.c (.int .i64 1)))⟩,
    ⟨none, (some 12), .inl (.mv (.s 34))⟩])))
/-- gyttja/sheet.yearsFrom -/
def k42 : Cd :=
  .seq (.region [⟨none, (some 6), .inl (.mv (.c (.int .i64 0)))⟩,
    ⟨none, (some 7), .inl (.mv (.c (.int .i64 0)))⟩])
  (.seq (.seq (.region [⟨none, (some 10), .inl (.mv (.s 0))⟩,
    ⟨none, (some 11), .inl (.len (.s 10))⟩,
    ⟨none, (some 12), .inl (.mv (.c (.int .i64 0)))⟩])
  (.block 0 (.loop k42l0)))
  (.seq (.region [⟨none, (some 35), .inl (.mv (.s 6))⟩,
    ⟨none, (some 36), .inl (.mv (.s 7))⟩,
    ⟨none, (some 6), .inl (.mv (.s 35))⟩,
    ⟨none, (some 7), .inl (.mv (.s 36))⟩])
  (.ret)))
/-- slices.Clone[[]gyttja/api.Row,gyttja/api.Row] -/
def k44 : Cd :=
  .seq (.region [⟨none, (some 2), .inl (.mv (.c (.slice none 0 0)))⟩])
  (.seq (.seq (.region [⟨none, (some 3), .inl (.mv (.s 0))⟩,
    ⟨none, (some 4), .inl (.eq false (.nil .slice) (.s 3) (.c (.slice none 0 0)))⟩])
  (.cond (.s 4) (.seq (.region [⟨none, (some 2), .inl (.mv (.c (.slice none 0 0)))⟩])
   (.ret))
  (.skip)))
  (.seq (.region [⟨none, (some 5), .inl (.bs 80 3 0 [(.int .i64 0), (.int .i64 0), (.int .i64 0)] [])⟩,
    ⟨none, (some 6), .inl (.mv (.s 0))⟩,
    ⟨none, (some 7), .inl (.app 80 3 24 (.s 5) (.s 6))⟩,
    ⟨none, (some 2), .inl (.mv (.s 7))⟩])
  (.ret)))
/-- gyttja/sheet.rowOf -/
def k45 : Cd :=
  .seq (.region [⟨none, (some 2), .inl (.box 36 4 (.s 0))⟩,
    ⟨none, (some 4), .inl (.mv (.c (.int .i64 0)))⟩])
  (.seq (.region [⟨none, (some 8), .inl (.mv (.s 1))⟩,
    ⟨none, (some 9), .inr (.fn 60 [(.s 8)])⟩,
    ⟨none, (some 7), .inl (.mv (.s 9))⟩,
    ⟨none, (some 10), .inl (.ex (.s 7) 0)⟩,
    ⟨none, (some 11), .inl (.ex (.s 7) 1)⟩,
    ⟨none, (some 5), .inl (.mv (.s 10))⟩,
    ⟨none, (some 6), .inl (.mv (.s 11))⟩])
  (.seq (.seq (.region [⟨none, (some 12), .inl (.mv (.s 5))⟩,
    ⟨none, (some 13), .inl (.fa (.s 2) 2)⟩,
    ⟨none, (some 14), .inl (.ld false 1 (.s 13))⟩,
    ⟨none, (some 15), .inl (.bin .neq (.s 12) (.s 14))⟩])
  (.cond (.s 15) (.seq (.region [⟨none, (some 4), .inl (.mv (.c (.int .i64 (-1))))⟩])
   (.ret))
  (.skip)))
  (.seq (.region [⟨none, (some 16), .inl (.fa (.s 2) 3)⟩,
    ⟨none, (some 17), .inl (.ld false 1 (.s 16))⟩,
    ⟨none, (some 18), .inl (.mv (.s 6))⟩,
    ⟨none, (some 19), .inl (.bld [(.int .i64 0), (.int .i64 0), (.int .i64 0)] [(0, 1, (.c (.int .i64 1))), (1, 1, (.s 18))])⟩,
    ⟨none, (some 20), .inr (.fn 61 [(.s 17), (.s 19)])⟩,
    ⟨none, (some 4), .inl (.mv (.s 20))⟩])
  (.ret))))
/-- gyttja/sheet.kinds -/
def k47 : Cd :=
  .seq (.region [⟨none, (some 0), .inl (.mv (.c (.map none)))⟩])
  (.seq (.region [⟨none, (some 1), .inl (.mkm)⟩,
    ⟨none, none, .inl (.upd .int (.s 1) (.c (.int .i64 1)) (.f 63))⟩,
    ⟨none, none, .inl (.upd .int (.s 1) (.c (.int .i64 2)) (.f 64))⟩,
    ⟨none, none, .inl (.upd .int (.s 1) (.c (.int .i64 3)) (.f 66))⟩,
    ⟨none, none, .inl (.upd .int (.s 1) (.c (.int .i64 4)) (.f 67))⟩,
    ⟨none, none, .inl (.upd .int (.s 1) (.c (.int .i64 5)) (.f 68))⟩,
    ⟨none, none, .inl (.upd .int (.s 1) (.c (.int .i64 6)) (.f 69))⟩,
    ⟨none, (some 2), .inl (.mv (.s 1))⟩,
    ⟨none, (some 0), .inl (.mv (.s 2))⟩])
  (.ret))
/-- gyttja/sheet.natureOf -/
def k48 : Cd :=
  .seq (.region [⟨none, (some 3), .inl (.box 80 3 (.s 1))⟩,
    ⟨none, (some 4), .inl (.alloc 71 [(.bool false), (.int .i64 0), (.int .i64 0), (.slice none 0 0), (.int .i64 0), (.bool false), (.bool false)])⟩])
  (.seq (.region [⟨none, (some 8), .inl (.mv (.s 0))⟩,
    ⟨none, (some 9), .inl (.fa (.s 3) 0)⟩,
    ⟨none, (some 10), .inl (.ld false 1 (.s 9))⟩,
    ⟨none, (some 11), .inl (.lk .int .nilFunc true (.s 8) (.s 10))⟩,
    ⟨none, (some 7), .inl (.mv (.s 11))⟩,
    ⟨none, (some 12), .inl (.ex (.s 7) 0)⟩,
    ⟨none, (some 13), .inl (.ex (.s 7) 1)⟩,
    ⟨none, (some 5), .inl (.mv (.s 12))⟩,
    ⟨none, (some 6), .inl (.mv (.s 13))⟩])
  (.seq (.seq (.region [⟨none, (some 14), .inl (.mv (.s 6))⟩,
    ⟨none, (some 15), .inl (.not (.s 14))⟩])
  (.cond (.s 15) (.seq (.region [⟨none, (some 16), .inl (.bld [(.bool false), (.int .i64 0), (.int .i64 0), (.slice none 0 0), (.int .i64 0), (.bool false), (.bool false)] [])⟩,
     ⟨none, none, .inl (.st 7 (.s 4) (.s 16))⟩])
   (.ret))
  (.skip)))
  (.seq (.region [⟨none, (some 17), .inl (.mv (.s 5))⟩,
    ⟨none, (some 18), .inl (.ld true 3 (.s 3))⟩,
    ⟨none, (some 19), .inr (.val (.s 17) [(.s 18)])⟩,
    ⟨none, none, .inl (.st 7 (.s 4) (.s 19))⟩])
  (.ret))))
/-- gyttja/sheet.Parse$1 -/
def k52 : Cd :=
  .seq (.region [⟨none, (some 6), .inr (.rcv)⟩,
    ⟨none, (some 7), .inl (.ta 91 (.int .i64 0) (.s 6))⟩,
    ⟨none, (some 5), .inl (.mv (.s 7))⟩,
    ⟨none, (some 8), .inl (.ex (.s 5) 0)⟩,
    ⟨none, (some 9), .inl (.ex (.s 5) 1)⟩,
    ⟨none, (some 3), .inl (.mv (.s 8))⟩,
    ⟨none, (some 4), .inl (.mv (.s 9))⟩])
  (.seq (.region [⟨none, (some 10), .inl (.mv (.s 4))⟩])
  (.cond (.s 10) (.region [⟨none, (some 11), .inl (.bld [(.int .i64 0), (.int .i64 0), (.int .i64 0), (.slice none 0 0)] [])⟩,
     ⟨none, (some 12), .inl (.mv (.s 3))⟩,
     ⟨none, none, .inl (.st 4 (.s 0) (.s 11))⟩,
     ⟨none, none, .inl (.st 1 (.s 1) (.s 12))⟩,
     ⟨none, none, .inl (.st 1 (.s 2) (.c (.int .i64 12)))⟩])
  (.skip)))
def k53l0 : Cd :=
  .region [⟨none, (some 6), .inl (.mv (.s 10))⟩]
def k53l1 : Cd :=
  .block 1 (.seq (.region [⟨none, (some 11), .inl (.ld false 1 (.s 4))⟩,
    ⟨none, (some 12), .inl (.bin .add (.s 11) (.c (.int .i64 1)))⟩,
    ⟨none, none, .inl (.st 1 (.s 4) (.s 12))⟩])
  (.seq (.region [⟨none, (some 13), .inl (.mv (.s 6))⟩,
    ⟨none, (some 14), .inr (.fn 74 [(.s 13), (.c (.string ⟨#[10]⟩))])⟩,
    ⟨none, (some 15), .inr (.fn 73 [(.s 14)])⟩,
    ⟨none, (some 7), .inl (.mv (.s 15))⟩])
  (.seq (.seq (.region [⟨none, (some 16), .inl (.mv (.s 7))⟩,
    ⟨none, (some 17), .inl (.len (.s 16))⟩,
    ⟨none, (some 18), .inl (.bin .eql (.s 17) (.c (.int .i64 0)))⟩,
    ⟨none, (some 19), .inl (.mv (.s 18))⟩,
    ⟨(some (19, false)), (some 20), .inl (.mv (.s 6))⟩,
    ⟨(some (19, false)), (some 21), .inl (.ixs (.s 20) (.c (.int .i64 0)))⟩,
    ⟨(some (19, false)), (some 22), .inl (.bin .eql (.s 21) (.c (.int .u8 35)))⟩,
    ⟨none, (some 23), .inl (.pick (.s 19) (.c (.bool true)) (.s 22))⟩])
  (.cond (.s 23) (.exit 1)
  (.skip)))
  (.seq (.region [⟨none, (some 24), .inl (.ld false 1 (.s 5))⟩])
  (.cond (.s 24) (.draw [⟨⟨none, (some 25), .inl (.fa (.s 3) 3)⟩, (some []), [], 0, false⟩,
     ⟨⟨none, (some 26), .inl (.ld false 1 (.s 25))⟩, (some []), [.fr 30], 1, false⟩,
     ⟨⟨none, (some 27), .inl (.ld false 1 (.s 4))⟩, (some []), [], 0, false⟩,
     ⟨⟨none, (some 28), .inl (.mv (.s 7))⟩, (some []), [], 0, false⟩,
     ⟨⟨none, (some 29), .inr (.fn 75 [(.s 27), (.s 28)])⟩, (some []), [], 12, false⟩,
     ⟨⟨none, (some 30), .inl (.bs 80 3 1 [(.int .i64 0), (.int .i64 0), (.int .i64 0)] [(0, (.s 29))])⟩, (some [.fr 30]), [], 28, false⟩,
     ⟨⟨none, (some 31), .inl (.app 80 3 24 (.s 26) (.s 30))⟩, (some [.fr 31, .at 26]), [], 63, false⟩,
     ⟨⟨none, (some 32), .inl (.fa (.s 3) 3)⟩, (some []), [], 127, false⟩,
     ⟨⟨none, none, .inl (.st 1 (.s 32) (.s 31))⟩, (some [.at 3]), [], 255, false⟩])
  (.region [⟨none, (some 33), .inl (.ld false 1 (.s 4))⟩,
     ⟨none, (some 34), .inl (.mv (.s 7))⟩,
     ⟨none, (some 35), .inr (.fn 76 [(.s 33), (.s 34)])⟩,
     ⟨none, none, .inl (.st 4 (.s 3) (.s 35))⟩,
     ⟨none, none, .inl (.st 1 (.s 5) (.c (.bool true)))⟩]))))))
/-- gyttja/sheet.parseLines -/
def k53 : Cd :=
  .seq (.region [⟨none, (some 2), .inl (.alloc 36 [(.int .i64 0), (.int .i64 0), (.int .i64 0), (.slice none 0 0)])⟩])
  (.seq (.region [⟨none, (some 3), .inl (.alloc 36 [(.int .i64 0), (.int .i64 0), (.int .i64 0), (.slice none 0 0)])⟩])
  (.seq (.region [⟨none, (some 4), .inl (.alloc 3 [(.int .i64 0)])⟩,
    ⟨none, (some 5), .inl (.alloc 4 [(.bool false)])⟩,
    ⟨none, none, .inl (.st 1 (.s 4) (.c (.int .i64 0)))⟩,
    ⟨none, none, .inl (.st 1 (.s 5) (.c (.bool false)))⟩])
  (.seq (.seq (.region [⟨none, (some 8), .inl (.mv (.s 0))⟩,
    ⟨none, (some 9), .inr (.fn 72 [(.s 8)])⟩])
  (.block 0 (.rangeF (.s 9) [10] k53l0 k53l1)))
  (.seq (.seq (.region [⟨none, (some 36), .inl (.ld false 1 (.s 5))⟩,
    ⟨none, (some 37), .inl (.not (.s 36))⟩])
  (.cond (.s 37) (.region [⟨none, (some 38), .inl (.ld false 1 (.s 4))⟩,
     ⟨none, (some 39), .inl (.bin .add (.s 38) (.c (.int .i64 1)))⟩,
     ⟨none, (some 40), .inl (.mki 91 (.s 39))⟩,
     ⟨none, none, .inr (.pan (.s 40))⟩])
  (.skip)))
  (.seq (.region [⟨none, (some 41), .inl (.ld true 4 (.s 3))⟩,
    ⟨none, none, .inl (.st 4 (.s 2) (.s 41))⟩])
  (.ret))))))
/-- slices.ContainsFunc[[]gyttja/sheet.nature,gyttja/sheet.nature] -/
def k54 : Cd :=
  .seq (.region [⟨none, (some 4), .inl (.mv (.c (.bool false)))⟩])
  (.seq (.region [⟨none, (some 5), .inl (.mv (.s 0))⟩,
    ⟨none, (some 6), .inl (.mv (.s 1))⟩,
    ⟨none, (some 7), .inr (.fn 77 [(.s 5), (.s 6)])⟩,
    ⟨none, (some 8), .inl (.bin .geq (.s 7) (.c (.int .i64 0)))⟩,
    ⟨none, (some 4), .inl (.mv (.s 8))⟩])
  (.ret))
/-- gyttja/sheet.layered$1 -/
def k55 : Cd :=
  .seq (.region [⟨none, (some 1), .inl (.box 71 7 (.s 0))⟩,
    ⟨none, (some 2), .inl (.mv (.c (.bool false)))⟩])
  (.seq (.region [⟨none, (some 3), .inl (.fa (.s 1) 5)⟩,
    ⟨none, (some 4), .inl (.ld false 1 (.s 3))⟩,
    ⟨none, (some 2), .inl (.mv (.s 4))⟩])
  (.ret))
def k56l0 : Cd :=
  .seq (.region [⟨none, (some 9), .inl (.bin .lss (.s 8) (.s 7))⟩])
  (.seq (.cond (.s 9) (.skip)
  (.exit 0))
  (.seq (.block 1 (.seq (.region [⟨none, (some 10), .inl (.mv (.s 8))⟩,
    ⟨none, (some 5), .inl (.mv (.s 10))⟩])
  (.seq (.region [⟨none, (some 11), .inl (.mv (.s 1))⟩,
    ⟨none, (some 12), .inl (.mv (.s 0))⟩,
    ⟨none, (some 13), .inl (.mv (.s 5))⟩,
    ⟨none, (some 14), .inl (.ias 1 (.s 12) (.s 13))⟩,
    ⟨none, (some 15), .inl (.ld false 1 (.s 14))⟩,
    ⟨none, (some 16), .inr (.val (.s 11) [(.s 15)])⟩])
  (.cond (.s 16) (.seq (.region [⟨none, (some 17), .inl (.mv (.s 5))⟩,
     ⟨none, (some 4), .inl (.mv (.s 17))⟩])
   (.ret))
  (.skip)))))
  (.region [⟨none, (some 18), .inl (.bin .add (.s 8) (.c (.int .i64 1)))⟩,
    ⟨none, (some 8), .inl (.mv (.s 18))⟩])))
/-- slices.IndexFunc[[]int,int] -/
def k56 : Cd :=
  .seq (.region [⟨none, (some 4), .inl (.mv (.c (.int .i64 0)))⟩])
  (.seq (.seq (.region [⟨none, (some 6), .inl (.mv (.s 0))⟩,
    ⟨none, (some 7), .inl (.len (.s 6))⟩,
    ⟨none, (some 8), .inl (.mv (.c (.int .i64 0)))⟩])
  (.block 0 (.loop k56l0)))
  (.seq (.region [⟨none, (some 4), .inl (.mv (.c (.int .i64 (-1))))⟩])
  (.ret)))
/-- gyttja/sheet.hidden$1 -/
def k57 : Cd :=
  .seq (.region [⟨none, (some 2), .inl (.mv (.c (.bool false)))⟩])
  (.seq (.region [⟨none, (some 3), .inl (.mv (.s 0))⟩,
    ⟨none, (some 4), .inl (.bin .neq (.s 3) (.c (.int .i64 0)))⟩,
    ⟨none, (some 2), .inl (.mv (.s 4))⟩])
  (.ret))
def k58l0 : Cd :=
  .seq (.region [⟨none, (some 14), .inl (.bin .lss (.s 13) (.s 12))⟩])
  (.seq (.cond (.s 14) (.skip)
  (.exit 0))
  (.seq (.block 1 (.seq (.region [⟨none, (some 15), .inl (.mv (.s 13))⟩,
    ⟨none, (some 5), .inl (.mv (.s 15))⟩])
  (.seq (.draw [⟨⟨none, (some 16), .inl (.mv (.s 0))⟩, (some []), [], 0, false⟩,
    ⟨⟨none, (some 17), .inl (.mv (.s 5))⟩, (some []), [], 0, false⟩,
    ⟨⟨none, (some 18), .inl (.ias 1 (.s 16) (.s 17))⟩, (some []), [], 3, false⟩,
    ⟨⟨none, (some 19), .inl (.ld false 1 (.s 18))⟩, (some []), [], 7, false⟩,
    ⟨⟨none, (some 20), .inl (.mv (.s 1))⟩, (some []), [], 0, false⟩,
    ⟨⟨none, (some 21), .inl (.mv (.s 5))⟩, (some []), [], 0, false⟩,
    ⟨⟨none, (some 22), .inl (.ias 1 (.s 20) (.s 21))⟩, (some []), [], 48, false⟩,
    ⟨⟨none, (some 23), .inl (.ld false 1 (.s 22))⟩, (some []), [], 112, false⟩,
    ⟨⟨none, (some 24), .inl (.bin .neq (.s 19) (.s 23))⟩, (some []), [], 255, false⟩])
  (.cond (.s 24) (.seq (.region [⟨none, (some 4), .inl (.mv (.c (.bool false)))⟩])
   (.ret))
  (.skip)))))
  (.region [⟨none, (some 25), .inl (.bin .add (.s 13) (.c (.int .i64 1)))⟩,
    ⟨none, (some 13), .inl (.mv (.s 25))⟩])))
/-- slices.Equal[[]int,int] -/
def k58 : Cd :=
  .seq (.region [⟨none, (some 4), .inl (.mv (.c (.bool false)))⟩])
  (.seq (.seq (.region [⟨none, (some 6), .inl (.mv (.s 0))⟩,
    ⟨none, (some 7), .inl (.len (.s 6))⟩,
    ⟨none, (some 8), .inl (.mv (.s 1))⟩,
    ⟨none, (some 9), .inl (.len (.s 8))⟩,
    ⟨none, (some 10), .inl (.bin .neq (.s 7) (.s 9))⟩])
  (.cond (.s 10) (.seq (.region [⟨none, (some 4), .inl (.mv (.c (.bool false)))⟩])
   (.ret))
  (.skip)))
  (.seq (.seq (.region [⟨none, (some 11), .inl (.mv (.s 0))⟩,
    ⟨none, (some 12), .inl (.len (.s 11))⟩,
    ⟨none, (some 13), .inl (.mv (.c (.int .i64 0)))⟩])
  (.block 0 (.loop k58l0)))
  (.seq (.region [⟨none, (some 4), .inl (.mv (.c (.bool true)))⟩])
  (.ret))))
def k59l0 : Cd :=
  .seq (.region [⟨none, (some 10), .inl (.bin .lss (.s 9) (.s 8))⟩])
  (.seq (.cond (.s 10) (.skip)
  (.exit 0))
  (.seq (.block 1 (.seq (.region [⟨none, (some 11), .inl (.ias 3 (.s 7) (.s 9))⟩,
    ⟨none, (some 12), .inl (.ld true 3 (.s 11))⟩,
    ⟨none, (some 5), .inl (.alloc 80 [(.int .i64 0), (.int .i64 0), (.int .i64 0)])⟩,
    ⟨none, none, .inl (.st 3 (.s 5) (.s 12))⟩])
  (.seq (.seq (.region [⟨none, (some 13), .inl (.mv (.s 0))⟩,
    ⟨none, (some 14), .inl (.mv (.s 3))⟩,
    ⟨none, (some 15), .inl (.ld true 3 (.s 5))⟩,
    ⟨none, (some 16), .inr (.val (.s 13) [(.s 14), (.s 15)])⟩,
    ⟨none, (some 17), .inl (.not (.s 16))⟩])
  (.cond (.s 17) (.ret)
  (.skip)))
  (.seq (.region [⟨none, (some 18), .inl (.fa (.s 5) 0)⟩,
    ⟨none, (some 19), .inl (.ld false 1 (.s 18))⟩,
    ⟨none, (some 20), .inl (.bin .eql (.s 19) (.c (.int .i64 1)))⟩])
  (.cond (.s 20) (.region [⟨none, (some 21), .inl (.fa (.s 1) 2)⟩,
     ⟨none, (some 22), .inl (.ld false 1 (.s 21))⟩,
     ⟨none, (some 23), .inl (.fa (.s 5) 1)⟩,
     ⟨none, (some 24), .inl (.ld false 1 (.s 23))⟩,
     ⟨none, (some 25), .inr (.fn 31 [(.s 22), (.s 24)])⟩,
     ⟨none, (some 3), .inl (.mv (.s 25))⟩])
  (.skip))))))
  (.region [⟨none, (some 26), .inl (.bin .add (.s 9) (.c (.int .i64 1)))⟩,
    ⟨none, (some 9), .inl (.mv (.s 26))⟩])))
/-- gyttja/sheet.rowsBelow$1 -/
def k59 : Cd :=
  .seq (.region [⟨none, (some 3), .inl (.mv (.c (.int .i64 (-1))))⟩])
  (.seq (.region [⟨none, (some 6), .inl (.fa (.s 1) 3)⟩,
    ⟨none, (some 7), .inl (.ld false 1 (.s 6))⟩,
    ⟨none, (some 8), .inl (.len (.s 7))⟩,
    ⟨none, (some 9), .inl (.mv (.c (.int .i64 0)))⟩])
  (.block 0 (.loop k59l0)))
/-- gyttja/sheet.Place -/
def k60 : Cd :=
  .seq (.region [⟨none, (some 2), .inl (.mv (.c (.int .i64 0)))⟩,
    ⟨none, (some 3), .inl (.mv (.c (.int .i64 0)))⟩])
  (.seq (.seq (.region [⟨none, (some 4), .inl (.mv (.s 0))⟩,
    ⟨none, (some 5), .inr (.fn 38 [(.s 4), (.c (.int .i64 1)), (.c (.int .i64 2048))])⟩,
    ⟨none, (some 6), .inl (.not (.s 5))⟩])
  (.cond (.s 6) (.seq (.region [⟨none, (some 2), .inl (.mv (.c (.int .i64 (-1))))⟩,
     ⟨none, (some 3), .inl (.mv (.c (.int .i64 (-1))))⟩])
   (.ret))
  (.skip)))
  (.seq (.region [⟨none, (some 7), .inl (.mv (.s 0))⟩,
    ⟨none, (some 8), .inl (.bin .sub (.s 7) (.c (.int .i64 1)))⟩,
    ⟨none, (some 9), .inl (.bin .quo (.s 8) (.c (.int .i64 64)))⟩,
    ⟨none, (some 10), .inl (.mv (.s 0))⟩,
    ⟨none, (some 11), .inl (.bin .sub (.s 10) (.c (.int .i64 1)))⟩,
    ⟨none, (some 12), .inl (.bin .rem (.s 11) (.c (.int .i64 64)))⟩,
    ⟨none, (some 2), .inl (.mv (.s 9))⟩,
    ⟨none, (some 3), .inl (.mv (.s 12))⟩])
  (.ret)))
def k61l0 : Cd :=
  .seq (.region [⟨none, (some 9), .inl (.bin .lss (.s 8) (.s 7))⟩])
  (.seq (.cond (.s 9) (.skip)
  (.exit 0))
  (.seq (.block 1 (.seq (.region [⟨none, (some 10), .inl (.mv (.s 8))⟩,
    ⟨none, (some 5), .inl (.mv (.s 10))⟩])
  (.seq (.draw [⟨⟨none, (some 11), .inl (.ld true 3 (.s 3))⟩, (some []), [], 0, false⟩,
    ⟨⟨none, (some 12), .inl (.mv (.s 0))⟩, (some []), [], 0, false⟩,
    ⟨⟨none, (some 13), .inl (.mv (.s 5))⟩, (some []), [], 0, false⟩,
    ⟨⟨none, (some 14), .inl (.ias 3 (.s 12) (.s 13))⟩, (some []), [], 6, false⟩,
    ⟨⟨none, (some 15), .inl (.ld true 3 (.s 14))⟩, (some []), [], 14, false⟩,
    ⟨⟨none, (some 16), .inl (.eq false (.cells [.int, .int, .int]) (.s 11) (.s 15))⟩, (some []), [], 31, false⟩])
  (.cond (.s 16) (.seq (.region [⟨none, (some 17), .inl (.mv (.s 5))⟩,
     ⟨none, (some 4), .inl (.mv (.s 17))⟩])
   (.ret))
  (.skip)))))
  (.region [⟨none, (some 18), .inl (.bin .add (.s 8) (.c (.int .i64 1)))⟩,
    ⟨none, (some 8), .inl (.mv (.s 18))⟩])))
/-- slices.Index[[]gyttja/api.Row,gyttja/api.Row] -/
def k61 : Cd :=
  .seq (.region [⟨none, (some 3), .inl (.box 80 3 (.s 1))⟩,
    ⟨none, (some 4), .inl (.mv (.c (.int .i64 0)))⟩])
  (.seq (.seq (.region [⟨none, (some 6), .inl (.mv (.s 0))⟩,
    ⟨none, (some 7), .inl (.len (.s 6))⟩,
    ⟨none, (some 8), .inl (.mv (.c (.int .i64 0)))⟩])
  (.block 0 (.loop k61l0)))
  (.seq (.region [⟨none, (some 4), .inl (.mv (.c (.int .i64 (-1))))⟩])
  (.ret)))
/-- gyttja/sheet.kinds$1 -/
def k63 : Cd :=
  .seq (.region [⟨none, (some 1), .inl (.box 80 3 (.s 0))⟩,
    ⟨none, (some 2), .inl (.alloc 71 [(.bool false), (.int .i64 0), (.int .i64 0), (.slice none 0 0), (.int .i64 0), (.bool false), (.bool false)])⟩])
  (.seq (.region [⟨none, (some 3), .inl (.fa (.s 1) 1)⟩,
    ⟨none, (some 4), .inl (.ld false 1 (.s 3))⟩,
    ⟨none, (some 5), .inr (.fn 38 [(.s 4), (.c (.int .i64 0)), (.c (.int .i64 63))])⟩,
    ⟨none, (some 6), .inl (.mv (.s 5))⟩,
    ⟨(some (6, true)), (some 7), .inl (.fa (.s 1) 2)⟩,
    ⟨(some (6, true)), (some 8), .inl (.ld false 1 (.s 7))⟩,
    ⟨(some (6, true)), (some 9), .inl (.bin .eql (.s 8) (.c (.int .i64 0)))⟩,
    ⟨none, (some 10), .inl (.pick (.s 6) (.s 9) (.c (.bool false)))⟩,
    ⟨none, (some 11), .inl (.bld [(.bool false), (.int .i64 0), (.int .i64 0), (.slice none 0 0), (.int .i64 0), (.bool false), (.bool false)] [(0, 1, (.s 10))])⟩,
    ⟨none, none, .inl (.st 7 (.s 2) (.s 11))⟩])
  (.ret))
/-- gyttja/sheet.kinds$2 -/
def k64 : Cd :=
  .seq (.region [⟨none, (some 1), .inl (.box 80 3 (.s 0))⟩,
    ⟨none, (some 2), .inl (.alloc 71 [(.bool false), (.int .i64 0), (.int .i64 0), (.slice none 0 0), (.int .i64 0), (.bool false), (.bool false)])⟩])
  (.seq (.draw [⟨⟨none, (some 3), .inl (.fa (.s 1) 1)⟩, (some []), [], 0, false⟩,
    ⟨⟨none, (some 4), .inl (.ld false 1 (.s 3))⟩, (some []), [.fr 13], 1, false⟩,
    ⟨⟨none, (some 5), .inr (.fn 65 [(.s 4)])⟩, (some []), [.fr 13], 3, false⟩,
    ⟨⟨none, (some 6), .inl (.mv (.s 5))⟩, (some []), [], 7, false⟩,
    ⟨⟨(some (6, true)), (some 7), .inl (.fa (.s 1) 2)⟩, (some []), [], 15, false⟩,
    ⟨⟨(some (6, true)), (some 8), .inl (.ld false 1 (.s 7))⟩, (some []), [.fr 13], 31, false⟩,
    ⟨⟨(some (6, true)), (some 9), .inl (.bin .eql (.s 8) (.c (.int .i64 0)))⟩, (some []), [], 63, false⟩,
    ⟨⟨none, (some 10), .inl (.pick (.s 6) (.s 9) (.c (.bool false)))⟩, (some []), [], 127, false⟩,
    ⟨⟨none, (some 11), .inl (.fa (.s 1) 1)⟩, (some []), [], 0, false⟩,
    ⟨⟨none, (some 12), .inl (.ld false 1 (.s 11))⟩, (some []), [], 256, false⟩,
    ⟨⟨none, (some 13), .inl (.bs 3 1 1 [(.int .i64 0)] [(0, (.s 12))])⟩, (some [.fr 13]), [], 768, false⟩,
    ⟨⟨none, (some 14), .inl (.bld [(.bool false), (.int .i64 0), (.int .i64 0), (.slice none 0 0), (.int .i64 0), (.bool false), (.bool false)] [(0, 1, (.s 10)), (1, 1, (.c (.int .i64 1))), (2, 1, (.c (.int .i64 1))), (3, 1, (.s 13))])⟩, (some []), [], 2047, false⟩,
    ⟨⟨none, none, .inl (.st 7 (.s 2) (.s 14))⟩, (some [.at 2]), [], 4095, false⟩])
  (.ret))
/-- gyttja/sheet.isThick -/
def k65 : Cd :=
  .seq (.region [⟨none, (some 2), .inl (.mv (.c (.bool false)))⟩])
  (.seq (.region [⟨none, (some 3), .inl (.mv (.s 0))⟩,
    ⟨none, (some 4), .inr (.fn 38 [(.s 3), (.c (.int .i64 1)), (.c (.int .i64 100000))])⟩,
    ⟨none, (some 2), .inl (.mv (.s 4))⟩])
  (.ret))
/-- gyttja/sheet.kinds$3 -/
def k66 : Cd :=
  .seq (.region [⟨none, (some 1), .inl (.box 80 3 (.s 0))⟩,
    ⟨none, (some 2), .inl (.alloc 71 [(.bool false), (.int .i64 0), (.int .i64 0), (.slice none 0 0), (.int .i64 0), (.bool false), (.bool false)])⟩])
  (.seq (.draw [⟨⟨none, (some 3), .inl (.fa (.s 1) 1)⟩, (some []), [], 0, false⟩,
    ⟨⟨none, (some 4), .inl (.ld false 1 (.s 3))⟩, (some []), [.fr 15], 1, false⟩,
    ⟨⟨none, (some 5), .inr (.fn 65 [(.s 4)])⟩, (some []), [.fr 15], 3, false⟩,
    ⟨⟨none, (some 6), .inl (.mv (.s 5))⟩, (some []), [], 7, false⟩,
    ⟨⟨(some (6, true)), (some 7), .inl (.fa (.s 1) 2)⟩, (some []), [], 15, false⟩,
    ⟨⟨(some (6, true)), (some 8), .inl (.ld false 1 (.s 7))⟩, (some []), [.fr 15], 31, false⟩,
    ⟨⟨(some (6, true)), (some 9), .inr (.fn 65 [(.s 8)])⟩, (some []), [.fr 15], 63, false⟩,
    ⟨⟨none, (some 10), .inl (.pick (.s 6) (.s 9) (.c (.bool false)))⟩, (some []), [], 127, false⟩,
    ⟨⟨none, (some 11), .inl (.fa (.s 1) 1)⟩, (some []), [], 0, false⟩,
    ⟨⟨none, (some 12), .inl (.ld false 1 (.s 11))⟩, (some []), [], 256, false⟩,
    ⟨⟨none, (some 13), .inl (.fa (.s 1) 2)⟩, (some []), [], 0, false⟩,
    ⟨⟨none, (some 14), .inl (.ld false 1 (.s 13))⟩, (some []), [], 1024, false⟩,
    ⟨⟨none, (some 15), .inl (.bs 3 1 2 [(.int .i64 0)] [(0, (.s 12)), (1, (.s 14))])⟩, (some [.fr 15]), [], 3840, false⟩,
    ⟨⟨none, (some 16), .inl (.bld [(.bool false), (.int .i64 0), (.int .i64 0), (.slice none 0 0), (.int .i64 0), (.bool false), (.bool false)] [(0, 1, (.s 10)), (1, 1, (.c (.int .i64 1))), (2, 1, (.c (.int .i64 2))), (3, 1, (.s 15)), (6, 1, (.c (.bool true)))])⟩, (some []), [], 8191, false⟩,
    ⟨⟨none, none, .inl (.st 7 (.s 2) (.s 16))⟩, (some [.at 2]), [], 16383, false⟩])
  (.ret))
/-- gyttja/sheet.kinds$4 -/
def k67 : Cd :=
  .seq (.region [⟨none, (some 1), .inl (.box 80 3 (.s 0))⟩,
    ⟨none, (some 2), .inl (.alloc 71 [(.bool false), (.int .i64 0), (.int .i64 0), (.slice none 0 0), (.int .i64 0), (.bool false), (.bool false)])⟩])
  (.seq (.draw [⟨⟨none, (some 3), .inl (.fa (.s 1) 1)⟩, (some []), [], 0, false⟩,
    ⟨⟨none, (some 4), .inl (.ld false 1 (.s 3))⟩, (some []), [], 1, false⟩,
    ⟨⟨none, (some 5), .inr (.fn 38 [(.s 4), (.c (.int .i64 1)), (.c (.int .i64 1000))])⟩, (some []), [], 3, false⟩,
    ⟨⟨none, (some 6), .inl (.mv (.s 5))⟩, (some []), [], 7, false⟩,
    ⟨⟨(some (6, true)), (some 7), .inl (.fa (.s 1) 2)⟩, (some []), [], 15, false⟩,
    ⟨⟨(some (6, true)), (some 8), .inl (.ld false 1 (.s 7))⟩, (some []), [], 31, false⟩,
    ⟨⟨(some (6, true)), (some 9), .inl (.bin .eql (.s 8) (.c (.int .i64 0)))⟩, (some []), [], 63, false⟩,
    ⟨⟨none, (some 10), .inl (.pick (.s 6) (.s 9) (.c (.bool false)))⟩, (some []), [], 127, false⟩,
    ⟨⟨none, (some 11), .inl (.fa (.s 1) 1)⟩, (some []), [], 0, false⟩,
    ⟨⟨none, (some 12), .inl (.ld false 1 (.s 11))⟩, (some []), [], 256, false⟩,
    ⟨⟨none, (some 13), .inl (.bld [(.bool false), (.int .i64 0), (.int .i64 0), (.slice none 0 0), (.int .i64 0), (.bool false), (.bool false)] [(0, 1, (.s 10)), (2, 1, (.s 12)), (5, 1, (.c (.bool true))), (6, 1, (.c (.bool true)))])⟩, (some []), [], 1023, false⟩,
    ⟨⟨none, none, .inl (.st 7 (.s 2) (.s 13))⟩, (some [.at 2]), [], 2047, false⟩])
  (.ret))
/-- gyttja/sheet.kinds$5 -/
def k68 : Cd :=
  .seq (.region [⟨none, (some 1), .inl (.box 80 3 (.s 0))⟩,
    ⟨none, (some 2), .inl (.alloc 71 [(.bool false), (.int .i64 0), (.int .i64 0), (.slice none 0 0), (.int .i64 0), (.bool false), (.bool false)])⟩])
  (.seq (.draw [⟨⟨none, (some 3), .inl (.fa (.s 1) 1)⟩, (some []), [], 0, false⟩,
    ⟨⟨none, (some 4), .inl (.ld false 1 (.s 3))⟩, (some []), [], 1, false⟩,
    ⟨⟨none, (some 5), .inr (.fn 65 [(.s 4)])⟩, (some []), [], 3, false⟩,
    ⟨⟨none, (some 6), .inl (.mv (.s 5))⟩, (some []), [], 7, false⟩,
    ⟨⟨(some (6, true)), (some 7), .inl (.fa (.s 1) 2)⟩, (some []), [], 15, false⟩,
    ⟨⟨(some (6, true)), (some 8), .inl (.ld false 1 (.s 7))⟩, (some []), [], 31, false⟩,
    ⟨⟨(some (6, true)), (some 9), .inl (.bin .eql (.s 8) (.c (.int .i64 0)))⟩, (some []), [], 63, false⟩,
    ⟨⟨none, (some 10), .inl (.pick (.s 6) (.s 9) (.c (.bool false)))⟩, (some []), [], 127, false⟩,
    ⟨⟨none, (some 11), .inl (.fa (.s 1) 1)⟩, (some []), [], 0, false⟩,
    ⟨⟨none, (some 12), .inl (.ld false 1 (.s 11))⟩, (some []), [], 256, false⟩,
    ⟨⟨none, (some 13), .inl (.bld [(.bool false), (.int .i64 0), (.int .i64 0), (.slice none 0 0), (.int .i64 0), (.bool false), (.bool false)] [(0, 1, (.s 10)), (4, 1, (.s 12))])⟩, (some []), [], 1023, false⟩,
    ⟨⟨none, none, .inl (.st 7 (.s 2) (.s 13))⟩, (some [.at 2]), [], 2047, false⟩])
  (.ret))
/-- gyttja/sheet.kinds$6 -/
def k69 : Cd :=
  .seq (.region [⟨none, (some 1), .inl (.box 80 3 (.s 0))⟩,
    ⟨none, (some 2), .inl (.alloc 71 [(.bool false), (.int .i64 0), (.int .i64 0), (.slice none 0 0), (.int .i64 0), (.bool false), (.bool false)])⟩])
  (.seq (.region [⟨none, (some 4), .inl (.fa (.s 1) 1)⟩,
    ⟨none, (some 5), .inl (.ld false 1 (.s 4))⟩,
    ⟨none, (some 6), .inl (.fa (.s 1) 2)⟩,
    ⟨none, (some 7), .inl (.ld false 1 (.s 6))⟩,
    ⟨none, (some 8), .inr (.fn 38 [(.s 5), (.c (.int .i64 0)), (.s 7)])⟩,
    ⟨none, (some 9), .inl (.mv (.s 8))⟩,
    ⟨(some (9, true)), (some 10), .inl (.fa (.s 1) 2)⟩,
    ⟨(some (9, true)), (some 11), .inl (.ld false 1 (.s 10))⟩,
    ⟨(some (9, true)), (some 12), .inr (.fn 38 [(.s 11), (.c (.int .i64 1)), (.c (.int .i64 1000))])⟩,
    ⟨none, (some 13), .inl (.pick (.s 9) (.s 12) (.c (.bool false)))⟩,
    ⟨none, (some 3), .inl (.mv (.s 13))⟩])
  (.seq (.region [⟨none, (some 14), .inl (.mv (.s 3))⟩,
    ⟨none, (some 15), .inl (.fa (.s 1) 1)⟩,
    ⟨none, (some 16), .inl (.ld false 1 (.s 15))⟩,
    ⟨none, (some 17), .inl (.fa (.s 1) 2)⟩,
    ⟨none, (some 18), .inl (.ld false 1 (.s 17))⟩,
    ⟨none, (some 19), .inl (.bld [(.bool false), (.int .i64 0), (.int .i64 0), (.slice none 0 0), (.int .i64 0), (.bool false), (.bool false)] [(0, 1, (.s 14)), (1, 1, (.s 16)), (2, 1, (.s 18)), (5, 1, (.c (.bool true))), (6, 1, (.c (.bool true)))])⟩,
    ⟨none, none, .inl (.st 7 (.s 2) (.s 19))⟩])
  (.ret)))
/-- strings.Lines -/
def k72 : Cd :=
  .seq (.region [⟨none, (some 1), .inl (.box 9 1 (.s 0))⟩,
    ⟨none, (some 2), .inl (.mv (.c .nilFunc))⟩])
  (.seq (.region [⟨none, (some 3), .inl (.mkf (.func 79) [] [(.s 1)])⟩,
    ⟨none, (some 2), .inl (.mv (.s 3))⟩])
  (.ret))
/-- gyttja/sheet.wordsOf -/
def k73 : Cd :=
  .seq (.region [⟨none, (some 2), .inl (.mv (.c (.slice none 0 0)))⟩])
  (.seq (.region [⟨none, (some 3), .inl (.mv (.s 0))⟩,
    ⟨none, (some 4), .inr (.fn 81 [(.s 3), (.f 82)])⟩,
    ⟨none, (some 2), .inl (.mv (.s 4))⟩])
  (.ret))
/-- strings.TrimSuffix -/
def k74 : Cd :=
  .seq (.region [⟨none, (some 4), .inl (.mv (.c (.string ⟨#[]⟩)))⟩])
  (.seq (.region [⟨none, (some 5), .inl (.mv (.s 0))⟩,
    ⟨none, (some 6), .inl (.mv (.s 1))⟩,
    ⟨none, (some 7), .inr (.fn 83 [(.s 5), (.s 6)])⟩,
    ⟨none, (some 4), .inl (.mv (.s 7))⟩])
  (.ret))
def k75l0 : Cd :=
  .seq (.region [⟨none, (some 10), .inl (.bin .lss (.s 9) (.c (.int .i64 7)))⟩])
  (.seq (.cond (.s 10) (.skip)
  (.exit 0))
  (.seq (.block 1 (.seq (.region [⟨none, (some 11), .inl (.mv (.s 9))⟩,
    ⟨none, (some 12), .inl (.ixa true 2 7 (.s 8) (.s 9))⟩,
    ⟨none, (some 6), .inl (.alloc 122 [(.string ⟨#[]⟩), (.int .i64 0)])⟩,
    ⟨none, (some 5), .inl (.mv (.s 11))⟩,
    ⟨none, none, .inl (.st 2 (.s 6) (.s 12))⟩])
  (.seq (.seq (.draw [⟨⟨none, (some 13), .inl (.fa (.s 6) 0)⟩, (some []), [], 0, false⟩,
    ⟨⟨none, (some 14), .inl (.ld false 1 (.s 13))⟩, (some []), [], 1, false⟩,
    ⟨⟨none, (some 15), .inl (.mv (.s 1))⟩, (some []), [], 0, false⟩,
    ⟨⟨none, (some 16), .inl (.ias 1 (.s 15) (.c (.int .i64 0)))⟩, (some []), [], 4, false⟩,
    ⟨⟨none, (some 17), .inl (.ld false 1 (.s 16))⟩, (some []), [], 12, false⟩,
    ⟨⟨none, (some 18), .inl (.bin .neq (.s 14) (.s 17))⟩, (some []), [], 31, false⟩,
    ⟨⟨none, (some 19), .inl (.mv (.s 18))⟩, (some []), [], 63, false⟩,
    ⟨⟨(some (19, false)), (some 20), .inl (.mv (.s 1))⟩, (some []), [], 127, false⟩,
    ⟨⟨(some (19, false)), (some 21), .inl (.len (.s 20))⟩, (some []), [], 255, false⟩,
    ⟨⟨(some (19, false)), (some 22), .inl (.fa (.s 6) 1)⟩, (some []), [], 127, false⟩,
    ⟨⟨(some (19, false)), (some 23), .inl (.ld false 1 (.s 22))⟩, (some []), [], 639, false⟩,
    ⟨⟨(some (19, false)), (some 24), .inl (.bin .add (.s 23) (.c (.int .i64 1)))⟩, (some []), [], 1663, false⟩,
    ⟨⟨(some (19, false)), (some 25), .inl (.bin .neq (.s 21) (.s 24))⟩, (some []), [], 4095, false⟩,
    ⟨⟨none, (some 26), .inl (.pick (.s 19) (.c (.bool true)) (.s 25))⟩, (some []), [], 8191, false⟩])
  (.cond (.s 26) (.exit 1)
  (.skip)))
  (.seq (.region [⟨none, (some 27), .inl (.mv (.s 5))⟩,
    ⟨none, (some 28), .inl (.mv (.s 0))⟩,
    ⟨none, (some 29), .inl (.mv (.s 1))⟩,
    ⟨none, (some 30), .inl (.ias 1 (.s 29) (.c (.int .i64 1)))⟩,
    ⟨none, (some 31), .inl (.ld false 1 (.s 30))⟩,
    ⟨none, (some 32), .inr (.fn 84 [(.s 28), (.s 31)])⟩,
    ⟨none, (some 33), .inl (.bld [(.int .i64 0), (.int .i64 0), (.int .i64 0)] [(0, 1, (.s 27)), (1, 1, (.s 32))])⟩,
    ⟨none, (some 7), .inl (.alloc 80 [(.int .i64 0), (.int .i64 0), (.int .i64 0)])⟩,
    ⟨none, none, .inl (.st 3 (.s 7) (.s 33))⟩])
  (.seq (.seq (.region [⟨none, (some 34), .inl (.fa (.s 6) 1)⟩,
    ⟨none, (some 35), .inl (.ld false 1 (.s 34))⟩,
    ⟨none, (some 36), .inl (.bin .eql (.s 35) (.c (.int .i64 2)))⟩])
  (.cond (.s 36) (.region [⟨none, (some 37), .inl (.mv (.s 0))⟩,
     ⟨none, (some 38), .inl (.mv (.s 1))⟩,
     ⟨none, (some 39), .inl (.ias 1 (.s 38) (.c (.int .i64 2)))⟩,
     ⟨none, (some 40), .inl (.ld false 1 (.s 39))⟩,
     ⟨none, (some 41), .inr (.fn 84 [(.s 37), (.s 40)])⟩,
     ⟨none, (some 42), .inl (.fa (.s 7) 2)⟩,
     ⟨none, none, .inl (.st 1 (.s 42) (.s 41))⟩])
  (.skip)))
  (.seq (.region [⟨none, (some 43), .inl (.ld true 3 (.s 7))⟩,
    ⟨none, none, .inl (.st 3 (.s 4) (.s 43))⟩])
  (.ret)))))))
  (.region [⟨none, (some 44), .inl (.bin .add (.s 9) (.c (.int .i64 1)))⟩,
    ⟨none, (some 9), .inl (.mv (.s 44))⟩])))
/-- gyttja/sheet.parseRow -/
def k75 : Cd :=
  .seq (.region [⟨none, (some 4), .inl (.alloc 80 [(.int .i64 0), (.int .i64 0), (.int .i64 0)])⟩])
  (.seq (.seq (.region [⟨none, (some 8), .inl (.ld true 14 (.g 0))⟩,
    ⟨none, (some 9), .inl (.mv (.c (.int .i64 0)))⟩])
  (.block 0 (.loop k75l0)))
  (.region [⟨none, (some 45), .inl (.mv (.s 0))⟩,
    ⟨none, (some 46), .inl (.mki 91 (.s 45))⟩,
    ⟨none, none, .inr (.pan (.s 46))⟩]))
/-- gyttja/sheet.parseHead -/
def k76 : Cd :=
  .seq (.region [⟨none, (some 4), .inl (.alloc 36 [(.int .i64 0), (.int .i64 0), (.int .i64 0), (.slice none 0 0)])⟩])
  (.seq (.seq (.region [⟨none, (some 5), .inl (.mv (.s 1))⟩,
    ⟨none, (some 6), .inl (.len (.s 5))⟩,
    ⟨none, (some 7), .inl (.bin .neq (.s 6) (.c (.int .i64 6)))⟩,
    ⟨none, (some 8), .inl (.mv (.s 7))⟩,
    ⟨(some (8, false)), (some 9), .inl (.mv (.s 1))⟩,
    ⟨(some (8, false)), (some 10), .inl (.ias 1 (.s 9) (.c (.int .i64 0)))⟩,
    ⟨(some (8, false)), (some 11), .inl (.ld false 1 (.s 10))⟩,
    ⟨(some (8, false)), (some 12), .inl (.bin .neq (.s 11) (.c (.string ⟨#[115, 104, 101, 101, 116]⟩)))⟩,
    ⟨none, (some 13), .inl (.pick (.s 8) (.c (.bool true)) (.s 12))⟩,
    ⟨none, (some 14), .inl (.mv (.s 13))⟩,
    ⟨(some (14, false)), (some 15), .inl (.mv (.s 1))⟩,
    ⟨(some (14, false)), (some 16), .inl (.ias 1 (.s 15) (.c (.int .i64 2)))⟩,
    ⟨(some (14, false)), (some 17), .inl (.ld false 1 (.s 16))⟩,
    ⟨(some (14, false)), (some 18), .inl (.bin .neq (.s 17) (.c (.string ⟨#[114, 101, 97, 100, 101, 114]⟩)))⟩,
    ⟨none, (some 19), .inl (.pick (.s 14) (.c (.bool true)) (.s 18))⟩,
    ⟨none, (some 20), .inl (.mv (.s 19))⟩,
    ⟨(some (20, false)), (some 21), .inl (.mv (.s 1))⟩,
    ⟨(some (20, false)), (some 22), .inl (.ias 1 (.s 21) (.c (.int .i64 4)))⟩,
    ⟨(some (20, false)), (some 23), .inl (.ld false 1 (.s 22))⟩,
    ⟨(some (20, false)), (some 24), .inl (.bin .neq (.s 23) (.c (.string ⟨#[99, 111, 114, 101]⟩)))⟩,
    ⟨none, (some 25), .inl (.pick (.s 20) (.c (.bool true)) (.s 24))⟩])
  (.cond (.s 25) (.region [⟨none, (some 26), .inl (.mv (.s 0))⟩,
     ⟨none, (some 27), .inl (.mki 91 (.s 26))⟩,
     ⟨none, none, .inr (.pan (.s 27))⟩])
  (.skip)))
  (.seq (.draw [⟨⟨none, (some 28), .inl (.mv (.s 0))⟩, (some []), [], 0, false⟩,
    ⟨⟨none, (some 29), .inl (.mv (.s 1))⟩, (some []), [], 0, false⟩,
    ⟨⟨none, (some 30), .inl (.ias 1 (.s 29) (.c (.int .i64 1)))⟩, (some []), [], 2, false⟩,
    ⟨⟨none, (some 31), .inl (.ld false 1 (.s 30))⟩, (some []), [], 6, false⟩,
    ⟨⟨none, (some 32), .inr (.fn 84 [(.s 28), (.s 31)])⟩, (some []), [], 15, false⟩,
    ⟨⟨none, (some 33), .inl (.mv (.s 0))⟩, (some []), [], 0, false⟩,
    ⟨⟨none, (some 34), .inl (.mv (.s 1))⟩, (some []), [], 0, false⟩,
    ⟨⟨none, (some 35), .inl (.ias 1 (.s 34) (.c (.int .i64 3)))⟩, (some []), [], 64, false⟩,
    ⟨⟨none, (some 36), .inl (.ld false 1 (.s 35))⟩, (some []), [], 192, false⟩,
    ⟨⟨none, (some 37), .inr (.fn 84 [(.s 33), (.s 36)])⟩, (some []), [], 511, false⟩,
    ⟨⟨none, (some 38), .inl (.mv (.s 0))⟩, (some []), [], 0, false⟩,
    ⟨⟨none, (some 39), .inl (.mv (.s 1))⟩, (some []), [], 0, false⟩,
    ⟨⟨none, (some 40), .inl (.ias 1 (.s 39) (.c (.int .i64 5)))⟩, (some []), [], 2048, false⟩,
    ⟨⟨none, (some 41), .inl (.ld false 1 (.s 40))⟩, (some []), [], 6144, false⟩,
    ⟨⟨none, (some 42), .inr (.fn 84 [(.s 38), (.s 41)])⟩, (some []), [], 16383, false⟩,
    ⟨⟨none, (some 43), .inl (.bld [(.int .i64 0), (.int .i64 0), (.int .i64 0), (.slice none 0 0)] [(0, 1, (.s 32)), (1, 1, (.s 37)), (2, 1, (.s 42))])⟩, (some []), [], 32767, false⟩,
    ⟨⟨none, none, .inl (.st 4 (.s 4) (.s 43))⟩, (some [.at 4]), [], 65535, false⟩])
  (.ret)))
def k77l0 : Cd :=
  .seq (.region [⟨none, (some 9), .inl (.bin .lss (.s 8) (.s 7))⟩])
  (.seq (.cond (.s 9) (.skip)
  (.exit 0))
  (.seq (.block 1 (.seq (.region [⟨none, (some 10), .inl (.mv (.s 8))⟩,
    ⟨none, (some 5), .inl (.mv (.s 10))⟩])
  (.seq (.region [⟨none, (some 11), .inl (.mv (.s 1))⟩,
    ⟨none, (some 12), .inl (.mv (.s 0))⟩,
    ⟨none, (some 13), .inl (.mv (.s 5))⟩,
    ⟨none, (some 14), .inl (.ias 7 (.s 12) (.s 13))⟩,
    ⟨none, (some 15), .inl (.ld true 7 (.s 14))⟩,
    ⟨none, (some 16), .inr (.val (.s 11) [(.s 15)])⟩])
  (.cond (.s 16) (.seq (.region [⟨none, (some 17), .inl (.mv (.s 5))⟩,
     ⟨none, (some 4), .inl (.mv (.s 17))⟩])
   (.ret))
  (.skip)))))
  (.region [⟨none, (some 18), .inl (.bin .add (.s 8) (.c (.int .i64 1)))⟩,
    ⟨none, (some 8), .inl (.mv (.s 18))⟩])))
/-- slices.IndexFunc[[]gyttja/sheet.nature,gyttja/sheet.nature] -/
def k77 : Cd :=
  .seq (.region [⟨none, (some 4), .inl (.mv (.c (.int .i64 0)))⟩])
  (.seq (.seq (.region [⟨none, (some 6), .inl (.mv (.s 0))⟩,
    ⟨none, (some 7), .inl (.len (.s 6))⟩,
    ⟨none, (some 8), .inl (.mv (.c (.int .i64 0)))⟩])
  (.block 0 (.loop k77l0)))
  (.seq (.region [⟨none, (some 4), .inl (.mv (.c (.int .i64 (-1))))⟩])
  (.ret)))
def k79l0 : Cd :=
  .seq (.seq (.region [⟨none, (some 5), .inl (.ld false 1 (.s 1))⟩,
    ⟨none, (some 6), .inl (.lens (.s 5))⟩,
    ⟨none, (some 7), .inl (.bin .gtr (.s 6) (.c (.int .i64 0)))⟩])
  (.cond (.s 7) (.skip)
  (.exit 0)))
  (.block 1 (.seq (.region [⟨none, (some 3), .inl (.mv (.c (.string ⟨#[]⟩)))⟩])
  (.seq (.seq (.region [⟨none, (some 8), .inl (.ld false 1 (.s 1))⟩,
    ⟨none, (some 9), .inr (.fn 80 [(.s 8), (.c (.int .u8 10))])⟩,
    ⟨none, (some 4), .inl (.mv (.s 9))⟩])
  (.seq (.region [⟨none, (some 10), .inl (.mv (.s 4))⟩,
    ⟨none, (some 11), .inl (.bin .geq (.s 10) (.c (.int .i64 0)))⟩])
  (.cond (.s 11) (.draw [⟨⟨none, (some 12), .inl (.ld false 1 (.s 1))⟩, (some []), [], 0, false⟩,
     ⟨⟨none, (some 13), .inl (.mv (.s 4))⟩, (some []), [], 0, false⟩,
     ⟨⟨none, (some 14), .inl (.bin .add (.s 13) (.c (.int .i64 1)))⟩, (some []), [], 2, false⟩,
     ⟨⟨none, (some 15), .inl (.sls (.s 12) none (some (.s 14)))⟩, (some []), [], 7, false⟩,
     ⟨⟨none, (some 16), .inl (.ld false 1 (.s 1))⟩, (some []), [], 0, false⟩,
     ⟨⟨none, (some 17), .inl (.mv (.s 4))⟩, (some []), [], 0, false⟩,
     ⟨⟨none, (some 18), .inl (.bin .add (.s 17) (.c (.int .i64 1)))⟩, (some []), [], 32, false⟩,
     ⟨⟨none, (some 19), .inl (.sls (.s 16) (some (.s 18)) none)⟩, (some []), [], 112, false⟩,
     ⟨⟨none, (some 3), .inl (.mv (.s 15))⟩, (some []), [], 15, false⟩,
     ⟨⟨none, none, .inl (.st 1 (.s 1) (.s 19))⟩, (some [.at 1]), [], 511, false⟩])
  (.region [⟨none, (some 20), .inl (.ld false 1 (.s 1))⟩,
     ⟨none, (some 3), .inl (.mv (.s 20))⟩,
     ⟨none, none, .inl (.st 1 (.s 1) (.c (.string ⟨#[]⟩)))⟩]))))
  (.seq (.region [⟨none, (some 21), .inl (.mv (.s 0))⟩,
    ⟨none, (some 22), .inl (.mv (.s 3))⟩,
    ⟨none, (some 23), .inr (.val (.s 21) [(.s 22)])⟩,
    ⟨none, (some 24), .inl (.not (.s 23))⟩])
  (.cond (.s 24) (.ret)
  (.skip))))))
/-- strings.Lines$1 -/
def k79 : Cd :=
  .block 0 (.loop k79l0)
/-- strings.IndexByte -/
def k80 : Cd :=
  .seq (.region [⟨none, (some 4), .inl (.mv (.c (.int .i64 0)))⟩])
  (.seq (.region [⟨none, (some 5), .inl (.mv (.s 0))⟩,
    ⟨none, (some 6), .inl (.mv (.s 1))⟩,
    ⟨none, (some 7), .inr (.fn 88 [(.s 5), (.s 6)])⟩,
    ⟨none, (some 4), .inl (.mv (.s 7))⟩])
  (.ret))
def k81l0 : Cd :=
  .seq (.region [⟨none, (some 15), .inl (.nxt (.s 14))⟩,
    ⟨none, (some 16), .inl (.ex (.s 15) 0)⟩])
  (.seq (.cond (.s 16) (.skip)
  (.exit 0))
  (.block 1 (.seq (.region [⟨none, (some 17), .inl (.ex (.s 15) 1)⟩,
    ⟨none, (some 18), .inl (.ex (.s 15) 2)⟩,
    ⟨none, (some 7), .inl (.mv (.s 17))⟩,
    ⟨none, (some 8), .inl (.mv (.s 18))⟩])
  (.seq (.region [⟨none, (some 19), .inl (.mv (.s 1))⟩,
    ⟨none, (some 20), .inl (.mv (.s 8))⟩,
    ⟨none, (some 21), .inr (.val (.s 19) [(.s 20)])⟩])
  (.cond (.s 21) (.seq (.region [⟨none, (some 22), .inl (.mv (.s 6))⟩,
     ⟨none, (some 23), .inl (.bin .geq (.s 22) (.c (.int .i64 0)))⟩])
   (.cond (.s 23) (.seq (.region [⟨none, (some 24), .inl (.mv (.s 5))⟩,
      ⟨none, (some 25), .inl (.mv (.s 6))⟩,
      ⟨none, (some 26), .inl (.mv (.s 7))⟩,
      ⟨none, (some 27), .inl (.bld [(.int .i64 0), (.int .i64 0)] [(0, 1, (.s 25)), (1, 1, (.s 26))])⟩,
      ⟨none, (some 28), .inl (.bs 129 2 1 [(.int .i64 0), (.int .i64 0)] [(0, (.s 27))])⟩,
      ⟨none, (some 29), .inl (.app 129 2 16 (.s 24) (.s 28))⟩,
      ⟨none, (some 5), .inl (.mv (.s 29))⟩])
    (.region [⟨none, (some 30), .inl (.mv (.s 6))⟩,
      ⟨none, (some 31), .inl (.cpl (.s 30))⟩,
      ⟨none, (some 6), .inl (.mv (.s 31))⟩]))
   (.skip)))
  (.seq (.region [⟨none, (some 32), .inl (.mv (.s 6))⟩,
     ⟨none, (some 33), .inl (.bin .lss (.s 32) (.c (.int .i64 0)))⟩])
   (.cond (.s 33) (.region [⟨none, (some 34), .inl (.mv (.s 7))⟩,
      ⟨none, (some 6), .inl (.mv (.s 34))⟩])
   (.skip))))))))
def k81l1 : Cd :=
  .seq (.region [⟨none, (some 50), .inl (.bin .lss (.s 49) (.s 48))⟩])
  (.seq (.cond (.s 50) (.skip)
  (.exit 2))
  (.seq (.block 3 (.seq (.region [⟨none, (some 51), .inl (.mv (.s 49))⟩,
    ⟨none, (some 52), .inl (.ias 2 (.s 47) (.s 49))⟩,
    ⟨none, (some 53), .inl (.ld true 2 (.s 52))⟩,
    ⟨none, (some 11), .inl (.alloc 129 [(.int .i64 0), (.int .i64 0)])⟩,
    ⟨none, (some 10), .inl (.mv (.s 51))⟩,
    ⟨none, none, .inl (.st 2 (.s 11) (.s 53))⟩])
  (.region [⟨none, (some 54), .inl (.mv (.s 9))⟩,
    ⟨none, (some 55), .inl (.mv (.s 10))⟩,
    ⟨none, (some 56), .inl (.mv (.s 0))⟩,
    ⟨none, (some 57), .inl (.fa (.s 11) 0)⟩,
    ⟨none, (some 58), .inl (.ld false 1 (.s 57))⟩,
    ⟨none, (some 59), .inl (.fa (.s 11) 1)⟩,
    ⟨none, (some 60), .inl (.ld false 1 (.s 59))⟩,
    ⟨none, (some 61), .inl (.sls (.s 56) (some (.s 58)) (some (.s 60)))⟩,
    ⟨none, (some 62), .inl (.ias 1 (.s 54) (.s 55))⟩,
    ⟨none, none, .inl (.st 1 (.s 62) (.s 61))⟩])))
  (.region [⟨none, (some 63), .inl (.bin .add (.s 49) (.c (.int .i64 1)))⟩,
    ⟨none, (some 49), .inl (.mv (.s 63))⟩])))
/-- strings.FieldsFunc -/
def k81 : Cd :=
  .seq (.region [⟨none, (some 4), .inl (.mv (.c (.slice none 0 0)))⟩])
  (.seq (.region [⟨none, (some 12), .inl (.mks 129 2 16 [(.int .i64 0), (.int .i64 0)] (.c (.int .i64 0)) (.c (.int .i64 32)))⟩,
    ⟨none, (some 5), .inl (.mv (.s 12))⟩])
  (.seq (.region [⟨none, (some 6), .inl (.mv (.c (.int .i64 (-1))))⟩])
  (.seq (.seq (.region [⟨none, (some 13), .inl (.mv (.s 0))⟩,
    ⟨none, (some 14), .inl (.rng (.s 13))⟩])
  (.block 0 (.loop k81l0)))
  (.seq (.seq (.region [⟨none, (some 35), .inl (.mv (.s 6))⟩,
    ⟨none, (some 36), .inl (.bin .geq (.s 35) (.c (.int .i64 0)))⟩])
  (.cond (.s 36) (.region [⟨none, (some 37), .inl (.mv (.s 5))⟩,
     ⟨none, (some 38), .inl (.mv (.s 6))⟩,
     ⟨none, (some 39), .inl (.mv (.s 0))⟩,
     ⟨none, (some 40), .inl (.lens (.s 39))⟩,
     ⟨none, (some 41), .inl (.bld [(.int .i64 0), (.int .i64 0)] [(0, 1, (.s 38)), (1, 1, (.s 40))])⟩,
     ⟨none, (some 42), .inl (.bs 129 2 1 [(.int .i64 0), (.int .i64 0)] [(0, (.s 41))])⟩,
     ⟨none, (some 43), .inl (.app 129 2 16 (.s 37) (.s 42))⟩,
     ⟨none, (some 5), .inl (.mv (.s 43))⟩])
  (.skip)))
  (.seq (.region [⟨none, (some 44), .inl (.mv (.s 5))⟩,
    ⟨none, (some 45), .inl (.len (.s 44))⟩,
    ⟨none, (some 46), .inl (.mks 9 1 16 [(.string ⟨#[]⟩)] (.s 45) (.s 45))⟩,
    ⟨none, (some 9), .inl (.mv (.s 46))⟩])
  (.seq (.seq (.region [⟨none, (some 47), .inl (.mv (.s 5))⟩,
    ⟨none, (some 48), .inl (.len (.s 47))⟩,
    ⟨none, (some 49), .inl (.mv (.c (.int .i64 0)))⟩])
  (.block 2 (.loop k81l1)))
  (.seq (.region [⟨none, (some 64), .inl (.mv (.s 9))⟩,
    ⟨none, (some 4), .inl (.mv (.s 64))⟩])
  (.ret))))))))
/-- gyttja/sheet.wordsOf$1 -/
def k82 : Cd :=
  .seq (.region [⟨none, (some 2), .inl (.mv (.c (.bool false)))⟩])
  (.seq (.region [⟨none, (some 3), .inl (.mv (.s 0))⟩,
    ⟨none, (some 4), .inl (.bin .eql (.s 3) (.c (.int .i32 32)))⟩,
    ⟨none, (some 2), .inl (.mv (.s 4))⟩])
  (.ret))
/-- internal/stringslite.TrimSuffix -/
def k83 : Cd :=
  .seq (.region [⟨none, (some 4), .inl (.mv (.c (.string ⟨#[]⟩)))⟩])
  (.seq (.seq (.region [⟨none, (some 5), .inl (.mv (.s 0))⟩,
    ⟨none, (some 6), .inl (.mv (.s 1))⟩,
    ⟨none, (some 7), .inr (.fn 89 [(.s 5), (.s 6)])⟩])
  (.cond (.s 7) (.seq (.region [⟨none, (some 8), .inl (.mv (.s 0))⟩,
     ⟨none, (some 9), .inl (.mv (.s 0))⟩,
     ⟨none, (some 10), .inl (.lens (.s 9))⟩,
     ⟨none, (some 11), .inl (.mv (.s 1))⟩,
     ⟨none, (some 12), .inl (.lens (.s 11))⟩,
     ⟨none, (some 13), .inl (.bin .sub (.s 10) (.s 12))⟩,
     ⟨none, (some 14), .inl (.sls (.s 8) none (some (.s 13)))⟩,
     ⟨none, (some 4), .inl (.mv (.s 14))⟩])
   (.ret))
  (.skip)))
  (.seq (.region [⟨none, (some 15), .inl (.mv (.s 0))⟩,
    ⟨none, (some 4), .inl (.mv (.s 15))⟩])
  (.ret)))
def k84l0 : Cd :=
  .seq (.region [⟨none, (some 26), .inl (.bin .lss (.s 25) (.s 24))⟩])
  (.seq (.cond (.s 26) (.skip)
  (.exit 0))
  (.seq (.block 1 (.seq (.region [⟨none, (some 27), .inl (.ias 1 (.s 23) (.s 25))⟩,
    ⟨none, (some 28), .inl (.ld false 1 (.s 27))⟩,
    ⟨none, (some 7), .inl (.mv (.s 28))⟩])
  (.seq (.seq (.region [⟨none, (some 29), .inl (.mv (.s 7))⟩,
    ⟨none, (some 30), .inl (.bin .lss (.s 29) (.c (.int .u8 48)))⟩,
    ⟨none, (some 31), .inl (.mv (.s 30))⟩,
    ⟨(some (31, false)), (some 32), .inl (.mv (.s 7))⟩,
    ⟨(some (31, false)), (some 33), .inl (.bin .gtr (.s 32) (.c (.int .u8 57)))⟩,
    ⟨none, (some 34), .inl (.pick (.s 31) (.c (.bool true)) (.s 33))⟩])
  (.cond (.s 34) (.region [⟨none, (some 35), .inl (.mv (.s 0))⟩,
     ⟨none, (some 36), .inl (.mki 91 (.s 35))⟩,
     ⟨none, none, .inr (.pan (.s 36))⟩])
  (.skip)))
  (.region [⟨none, (some 37), .inl (.mv (.s 5))⟩,
    ⟨none, (some 38), .inl (.bin .mul (.c (.int .i64 10)) (.s 37))⟩,
    ⟨none, (some 39), .inl (.mv (.s 7))⟩,
    ⟨none, (some 40), .inl (.bin .sub (.s 39) (.c (.int .u8 48)))⟩,
    ⟨none, (some 41), .inl (.cvi .i64 (.s 40))⟩,
    ⟨none, (some 42), .inl (.bin .add (.s 38) (.s 41))⟩,
    ⟨none, (some 5), .inl (.mv (.s 42))⟩]))))
  (.region [⟨none, (some 43), .inl (.bin .add (.s 25) (.c (.int .i64 1)))⟩,
    ⟨none, (some 25), .inl (.mv (.s 43))⟩])))
/-- gyttja/sheet.parseNumber -/
def k84 : Cd :=
  .seq (.region [⟨none, (some 4), .inl (.mv (.c (.int .i64 0)))⟩])
  (.seq (.seq (.region [⟨none, (some 8), .inl (.mv (.s 1))⟩,
    ⟨none, (some 9), .inl (.lens (.s 8))⟩,
    ⟨none, (some 10), .inl (.bin .gtr (.s 9) (.c (.int .i64 6)))⟩,
    ⟨none, (some 11), .inl (.mv (.s 10))⟩,
    ⟨(some (11, false)), (some 12), .inl (.mv (.s 1))⟩,
    ⟨(some (11, false)), (some 13), .inl (.ixs (.s 12) (.c (.int .i64 0)))⟩,
    ⟨(some (11, false)), (some 14), .inl (.bin .eql (.s 13) (.c (.int .u8 48)))⟩,
    ⟨(some (11, false)), (some 15), .inl (.mv (.s 14))⟩,
    ⟨(some (15, true)), (some 16), .inl (.mv (.s 1))⟩,
    ⟨(some (15, true)), (some 17), .inl (.bin .neq (.s 16) (.c (.string ⟨#[48]⟩)))⟩,
    ⟨(some (11, false)), (some 18), .inl (.pick (.s 15) (.s 17) (.c (.bool false)))⟩,
    ⟨none, (some 19), .inl (.pick (.s 11) (.c (.bool true)) (.s 18))⟩])
  (.cond (.s 19) (.region [⟨none, (some 20), .inl (.mv (.s 0))⟩,
     ⟨none, (some 21), .inl (.mki 91 (.s 20))⟩,
     ⟨none, none, .inr (.pan (.s 21))⟩])
  (.skip)))
  (.seq (.region [⟨none, (some 5), .inl (.mv (.c (.int .i64 0)))⟩])
  (.seq (.seq (.region [⟨none, (some 22), .inl (.mv (.s 1))⟩,
    ⟨none, (some 23), .inl (.s2b 5 (.s 22))⟩,
    ⟨none, (some 24), .inl (.len (.s 23))⟩,
    ⟨none, (some 25), .inl (.mv (.c (.int .i64 0)))⟩])
  (.block 0 (.loop k84l0)))
  (.seq (.region [⟨none, (some 44), .inl (.mv (.s 5))⟩,
    ⟨none, (some 4), .inl (.mv (.s 44))⟩])
  (.ret)))))
/-- internal/stringslite.IndexByte -/
def k88 : Cd :=
  .seq (.region [⟨none, (some 4), .inl (.mv (.c (.int .i64 0)))⟩])
  (.seq (.region [⟨none, (some 5), .inl (.mv (.s 0))⟩,
    ⟨none, (some 6), .inl (.mv (.s 1))⟩,
    ⟨none, (some 7), .inr (.ixb 91 [(.s 5), (.s 6)])⟩,
    ⟨none, (some 4), .inl (.mv (.s 7))⟩])
  (.ret))
/-- internal/stringslite.HasSuffix -/
def k89 : Cd :=
  .seq (.region [⟨none, (some 4), .inl (.mv (.c (.bool false)))⟩])
  (.seq (.region [⟨none, (some 5), .inl (.mv (.s 0))⟩,
    ⟨none, (some 6), .inl (.lens (.s 5))⟩,
    ⟨none, (some 7), .inl (.mv (.s 1))⟩,
    ⟨none, (some 8), .inl (.lens (.s 7))⟩,
    ⟨none, (some 9), .inl (.bin .geq (.s 6) (.s 8))⟩,
    ⟨none, (some 10), .inl (.mv (.s 9))⟩,
    ⟨(some (10, true)), (some 11), .inl (.mv (.s 0))⟩,
    ⟨(some (10, true)), (some 12), .inl (.mv (.s 0))⟩,
    ⟨(some (10, true)), (some 13), .inl (.lens (.s 12))⟩,
    ⟨(some (10, true)), (some 14), .inl (.mv (.s 1))⟩,
    ⟨(some (10, true)), (some 15), .inl (.lens (.s 14))⟩,
    ⟨(some (10, true)), (some 16), .inl (.bin .sub (.s 13) (.s 15))⟩,
    ⟨(some (10, true)), (some 17), .inl (.sls (.s 11) (some (.s 16)) none)⟩,
    ⟨(some (10, true)), (some 18), .inl (.mv (.s 1))⟩,
    ⟨(some (10, true)), (some 19), .inl (.bin .eql (.s 17) (.s 18))⟩,
    ⟨none, (some 20), .inl (.pick (.s 10) (.s 19) (.c (.bool false)))⟩,
    ⟨none, (some 4), .inl (.mv (.s 20))⟩])
  (.ret))
end Go.Proofs.YtdljcjbghinhiaaDoor
