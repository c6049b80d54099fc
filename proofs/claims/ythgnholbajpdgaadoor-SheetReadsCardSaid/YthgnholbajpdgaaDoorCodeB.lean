/- The small code of the functions of this program, as its own reader reads them: part B. -/
import Derived.Test.YthgnholbajpdgaaDoorCodeA
namespace Go.Proofs.YthgnholbajpdgaaDoor
open Go Go.Em
set_option maxRecDepth 100000
/-- gyttja/gyttjaref01.least -/
def k79 : Cd :=
  .seq (.region [⟨none, (some 1), .inl (.box 23 3 (.s 0))⟩,
    ⟨none, (some 2), .inl (.mv (.c (.int .i64 0)))⟩])
  (.seq (.seq (.region [⟨none, (some 3), .inl (.fa (.s 1) 0)⟩,
    ⟨none, (some 4), .inl (.ld false 1 (.s 3))⟩])
  (.block 0 (.seq (.seq (.region [⟨none, (some 6), .inl (.bin .eql (.s 4) (.c (.int .i64 2)))⟩,
    ⟨none, (some 5), .inl (.mv (.s 6))⟩])
  (.cond (.s 5) (.skip)
  (.region [⟨none, (some 7), .inl (.bin .eql (.s 4) (.c (.int .i64 3)))⟩,
     ⟨none, (some 5), .inl (.mv (.s 7))⟩])))
  (.cond (.s 5) (.seq (.region [⟨none, (some 2), .inl (.mv (.c (.int .i64 1)))⟩])
   (.ret))
  (.seq (.region [⟨none, (some 9), .inl (.bin .eql (.s 4) (.c (.int .i64 6)))⟩,
     ⟨none, (some 8), .inl (.mv (.s 9))⟩])
   (.cond (.s 8) (.seq (.region [⟨none, (some 10), .inl (.fa (.s 1) 1)⟩,
      ⟨none, (some 11), .inl (.ld false 1 (.s 10))⟩,
      ⟨none, (some 2), .inl (.mv (.s 11))⟩])
    (.ret))
   (.skip)))))))
  (.seq (.region [⟨none, (some 2), .inl (.mv (.c (.int .i64 0)))⟩])
  (.ret)))
/-- gyttja/gyttjaref01.most -/
def k80 : Cd :=
  .seq (.region [⟨none, (some 1), .inl (.box 23 3 (.s 0))⟩,
    ⟨none, (some 2), .inl (.mv (.c (.int .i64 0)))⟩])
  (.seq (.seq (.region [⟨none, (some 3), .inl (.fa (.s 1) 0)⟩,
    ⟨none, (some 4), .inl (.ld false 1 (.s 3))⟩])
  (.block 0 (.seq (.region [⟨none, (some 6), .inl (.bin .eql (.s 4) (.c (.int .i64 2)))⟩,
    ⟨none, (some 5), .inl (.mv (.s 6))⟩])
  (.cond (.s 5) (.seq (.region [⟨none, (some 2), .inl (.mv (.c (.int .i64 1)))⟩])
   (.ret))
  (.seq (.region [⟨none, (some 8), .inl (.bin .eql (.s 4) (.c (.int .i64 3)))⟩,
     ⟨none, (some 7), .inl (.mv (.s 8))⟩])
   (.cond (.s 7) (.seq (.region [⟨none, (some 2), .inl (.mv (.c (.int .i64 2)))⟩])
    (.ret))
   (.seq (.region [⟨none, (some 10), .inl (.bin .eql (.s 4) (.c (.int .i64 4)))⟩,
      ⟨none, (some 9), .inl (.mv (.s 10))⟩])
    (.cond (.s 9) (.seq (.region [⟨none, (some 11), .inl (.fa (.s 1) 1)⟩,
       ⟨none, (some 12), .inl (.ld false 1 (.s 11))⟩,
       ⟨none, (some 2), .inl (.mv (.s 12))⟩])
     (.ret))
    (.seq (.region [⟨none, (some 14), .inl (.bin .eql (.s 4) (.c (.int .i64 6)))⟩,
       ⟨none, (some 13), .inl (.mv (.s 14))⟩])
     (.cond (.s 13) (.seq (.region [⟨none, (some 15), .inl (.fa (.s 1) 2)⟩,
        ⟨none, (some 16), .inl (.ld false 1 (.s 15))⟩,
        ⟨none, (some 2), .inl (.mv (.s 16))⟩])
      (.ret))
     (.skip)))))))))))
  (.seq (.region [⟨none, (some 2), .inl (.mv (.c (.int .i64 0)))⟩])
  (.ret)))
/-- gyttja/sheet.layered -/
def k81 : Cd :=
  .seq (.region [⟨none, (some 2), .inl (.mv (.c (.slice none 0 0)))⟩,
    ⟨none, (some 3), .inl (.mv (.c (.int .i64 0)))⟩])
  (.seq (.region [⟨none, (some 7), .inl (.mv (.s 0))⟩,
    ⟨none, (some 8), .inr (.fn 67 [(.s 7)])⟩,
    ⟨none, (some 6), .inl (.mv (.s 8))⟩,
    ⟨none, (some 9), .inl (.ex (.s 6) 0)⟩,
    ⟨none, (some 10), .inl (.ex (.s 6) 1)⟩,
    ⟨none, (some 4), .inl (.mv (.s 9))⟩,
    ⟨none, (some 5), .inl (.mv (.s 10))⟩])
  (.seq (.seq (.region [⟨none, (some 11), .inl (.mv (.s 5))⟩,
    ⟨none, (some 12), .inl (.bin .neq (.s 11) (.c (.int .i64 0)))⟩])
  (.cond (.s 12) (.seq (.region [⟨none, (some 13), .inl (.mv (.s 5))⟩,
     ⟨none, (some 2), .inl (.mv (.c (.slice none 0 0)))⟩,
     ⟨none, (some 3), .inl (.mv (.s 13))⟩])
   (.ret))
  (.skip)))
  (.seq (.seq (.region [⟨none, (some 14), .inl (.mv (.s 4))⟩,
    ⟨none, (some 15), .inr (.fn 117 [(.s 14), (.f 118)])⟩])
  (.cond (.s 15) (.seq (.region [⟨none, (some 2), .inl (.mv (.c (.slice none 0 0)))⟩,
     ⟨none, (some 3), .inl (.mv (.c (.int .i64 13)))⟩])
   (.ret))
  (.skip)))
  (.seq (.region [⟨none, (some 16), .inl (.mv (.s 4))⟩,
    ⟨none, (some 2), .inl (.mv (.s 16))⟩,
    ⟨none, (some 3), .inl (.mv (.c (.int .i64 0)))⟩])
  (.ret)))))
def k82l0 : Cd :=
  .seq (.region [⟨none, (some 9), .inl (.bin .lss (.s 8) (.s 7))⟩])
  (.seq (.cond (.s 9) (.skip)
  (.exit 0))
  (.seq (.block 1 (.seq (.region [⟨none, (some 10), .inl (.ias 1 (.s 6) (.s 8))⟩,
    ⟨none, (some 11), .inl (.ld false 1 (.s 10))⟩,
    ⟨none, (some 5), .inl (.mv (.s 11))⟩])
  (.region [⟨none, (some 12), .inl (.mv (.s 3))⟩,
    ⟨none, (some 13), .inl (.mv (.s 5))⟩,
    ⟨none, (some 14), .inl (.bin .add (.s 12) (.s 13))⟩,
    ⟨none, (some 3), .inl (.mv (.s 14))⟩])))
  (.region [⟨none, (some 15), .inl (.bin .add (.s 8) (.c (.int .i64 1)))⟩,
    ⟨none, (some 8), .inl (.mv (.s 15))⟩])))
/-- gyttja/sheet.sum -/
def k82 : Cd :=
  .seq (.region [⟨none, (some 2), .inl (.mv (.c (.int .i64 0)))⟩])
  (.seq (.region [⟨none, (some 3), .inl (.mv (.c (.int .i64 0)))⟩])
  (.seq (.seq (.region [⟨none, (some 6), .inl (.mv (.s 0))⟩,
    ⟨none, (some 7), .inl (.len (.s 6))⟩,
    ⟨none, (some 8), .inl (.mv (.c (.int .i64 0)))⟩])
  (.block 0 (.loop k82l0)))
  (.seq (.region [⟨none, (some 16), .inl (.mv (.s 3))⟩,
    ⟨none, (some 2), .inl (.mv (.s 16))⟩])
  (.ret))))
/-- gyttja/sheet.checkEnds -/
def k83 : Cd :=
  .seq (.region [⟨none, (some 3), .inl (.box 26 4 (.s 0))⟩,
    ⟨none, (some 6), .inl (.mv (.c (.int .i64 0)))⟩])
  (.seq (.seq (.region [⟨none, (some 8), .inl (.ld true 4 (.s 3))⟩,
    ⟨none, (some 9), .inr (.fn 23 [(.s 8)])⟩,
    ⟨none, (some 7), .inl (.mv (.s 9))⟩])
  (.seq (.region [⟨none, (some 10), .inl (.mv (.s 7))⟩,
    ⟨none, (some 11), .inl (.bin .neq (.s 10) (.c (.int .i64 0)))⟩])
  (.cond (.s 11) (.seq (.region [⟨none, (some 12), .inl (.mv (.s 7))⟩,
     ⟨none, (some 6), .inl (.mv (.s 12))⟩])
   (.ret))
  (.skip))))
  (.seq (.seq (.region [⟨none, (some 13), .inl (.ld true 4 (.s 3))⟩,
    ⟨none, (some 14), .inl (.mv (.s 1))⟩,
    ⟨none, (some 15), .inr (.fn 88 [(.s 13), (.s 14)])⟩,
    ⟨none, (some 16), .inl (.bin .eql (.s 15) (.c (.int .i64 (-1))))⟩,
    ⟨none, (some 17), .inl (.mv (.s 16))⟩,
    ⟨(some (17, false)), (some 18), .inl (.ld true 4 (.s 3))⟩,
    ⟨(some (17, false)), (some 19), .inl (.mv (.s 2))⟩,
    ⟨(some (17, false)), (some 20), .inr (.fn 88 [(.s 18), (.s 19)])⟩,
    ⟨(some (17, false)), (some 21), .inl (.bin .eql (.s 20) (.c (.int .i64 (-1))))⟩,
    ⟨none, (some 22), .inl (.pick (.s 17) (.c (.bool true)) (.s 21))⟩])
  (.cond (.s 22) (.seq (.region [⟨none, (some 6), .inl (.mv (.c (.int .i64 3)))⟩])
   (.ret))
  (.skip)))
  (.seq (.region [⟨none, (some 6), .inl (.mv (.c (.int .i64 0)))⟩])
  (.ret))))
def k84l0 : Cd :=
  .seq (.region [⟨none, (some 13), .inl (.bin .lss (.s 12) (.s 11))⟩])
  (.seq (.cond (.s 13) (.skip)
  (.exit 0))
  (.seq (.block 1 (.seq (.region [⟨none, (some 14), .inl (.ias 4 (.s 10) (.s 12))⟩,
    ⟨none, (some 15), .inl (.ld true 4 (.s 14))⟩,
    ⟨none, (some 9), .inl (.alloc 56 [(.int .i64 0), (.int .i64 0), (.int .i64 0), (.int .i64 0)])⟩,
    ⟨none, none, .inl (.st 4 (.s 9) (.s 15))⟩])
  (.seq (.region [⟨none, (some 16), .inl (.mv (.s 1))⟩,
    ⟨none, (some 17), .inl (.fa (.s 9) 0)⟩,
    ⟨none, (some 18), .inl (.ld false 1 (.s 17))⟩,
    ⟨none, (some 19), .inl (.bin .leq (.s 16) (.s 18))⟩,
    ⟨none, (some 20), .inl (.mv (.s 19))⟩,
    ⟨(some (20, true)), (some 21), .inl (.fa (.s 9) 1)⟩,
    ⟨(some (20, true)), (some 22), .inl (.ld false 1 (.s 21))⟩,
    ⟨(some (20, true)), (some 23), .inl (.mv (.s 2))⟩,
    ⟨(some (20, true)), (some 24), .inl (.bin .leq (.s 22) (.s 23))⟩,
    ⟨none, (some 25), .inl (.pick (.s 20) (.s 24) (.c (.bool false)))⟩])
  (.cond (.s 25) (.seq (.region [⟨none, (some 26), .inl (.mv (.s 6))⟩,
     ⟨none, (some 27), .inl (.fa (.s 9) 2)⟩,
     ⟨none, (some 28), .inl (.ld false 1 (.s 27))⟩,
     ⟨none, (some 29), .inl (.bin .add (.s 26) (.s 28))⟩,
     ⟨none, (some 6), .inl (.mv (.s 29))⟩])
   (.region [⟨none, (some 30), .inl (.mv (.s 7))⟩,
     ⟨none, (some 31), .inl (.fa (.s 9) 3)⟩,
     ⟨none, (some 32), .inl (.ld false 1 (.s 31))⟩,
     ⟨none, (some 33), .inl (.bin .add (.s 30) (.s 32))⟩,
     ⟨none, (some 7), .inl (.mv (.s 33))⟩]))
  (.skip)))))
  (.region [⟨none, (some 34), .inl (.bin .add (.s 12) (.c (.int .i64 1)))⟩,
    ⟨none, (some 12), .inl (.mv (.s 34))⟩])))
/-- gyttja/sheet.yearsFrom -/
def k84 : Cd :=
  .seq (.region [⟨none, (some 6), .inl (.mv (.c (.int .i64 0)))⟩,
    ⟨none, (some 7), .inl (.mv (.c (.int .i64 0)))⟩])
  (.seq (.seq (.region [⟨none, (some 10), .inl (.mv (.s 0))⟩,
    ⟨none, (some 11), .inl (.len (.s 10))⟩,
    ⟨none, (some 12), .inl (.mv (.c (.int .i64 0)))⟩])
  (.block 0 (.loop k84l0)))
  (.seq (.region [⟨none, (some 35), .inl (.mv (.s 6))⟩,
    ⟨none, (some 36), .inl (.mv (.s 7))⟩,
    ⟨none, (some 6), .inl (.mv (.s 35))⟩,
    ⟨none, (some 7), .inl (.mv (.s 36))⟩])
  (.ret)))
def k85l0 : Cd :=
  .seq (.seq (.region [⟨none, (some 13), .inl (.mv (.s 7))⟩,
    ⟨none, (some 14), .inl (.fa (.s 2) 3)⟩,
    ⟨none, (some 15), .inl (.ld false 1 (.s 14))⟩,
    ⟨none, (some 16), .inl (.len (.s 15))⟩,
    ⟨none, (some 17), .inl (.bin .lss (.s 13) (.s 16))⟩])
  (.cond (.s 17) (.skip)
  (.exit 0)))
  (.seq (.block 1 (.seq (.region [⟨none, (some 20), .inl (.mv (.s 5))⟩,
    ⟨none, (some 21), .inl (.fa (.s 2) 2)⟩,
    ⟨none, (some 22), .inl (.ld false 1 (.s 21))⟩,
    ⟨none, (some 23), .inl (.bin .eql (.s 20) (.s 22))⟩,
    ⟨none, (some 24), .inl (.mv (.s 23))⟩,
    ⟨(some (24, true)), (some 25), .inl (.fa (.s 2) 3)⟩,
    ⟨(some (24, true)), (some 26), .inl (.ld false 1 (.s 25))⟩,
    ⟨(some (24, true)), (some 27), .inl (.mv (.s 7))⟩,
    ⟨(some (24, true)), (some 28), .inl (.ias 3 (.s 26) (.s 27))⟩,
    ⟨(some (24, true)), (some 29), .inl (.fa (.s 28) 0)⟩,
    ⟨(some (24, true)), (some 30), .inl (.ld false 1 (.s 29))⟩,
    ⟨(some (24, true)), (some 31), .inl (.bin .eql (.s 30) (.c (.int .i64 1)))⟩,
    ⟨none, (some 32), .inl (.pick (.s 24) (.s 31) (.c (.bool false)))⟩,
    ⟨none, (some 33), .inl (.mv (.s 32))⟩,
    ⟨(some (33, true)), (some 34), .inl (.fa (.s 2) 3)⟩,
    ⟨(some (33, true)), (some 35), .inl (.ld false 1 (.s 34))⟩,
    ⟨(some (33, true)), (some 36), .inl (.mv (.s 7))⟩,
    ⟨(some (33, true)), (some 37), .inl (.ias 3 (.s 35) (.s 36))⟩,
    ⟨(some (33, true)), (some 38), .inl (.fa (.s 37) 1)⟩,
    ⟨(some (33, true)), (some 39), .inl (.ld false 1 (.s 38))⟩,
    ⟨(some (33, true)), (some 40), .inl (.mv (.s 6))⟩,
    ⟨(some (33, true)), (some 41), .inl (.bin .eql (.s 39) (.s 40))⟩,
    ⟨none, (some 42), .inl (.pick (.s 33) (.s 41) (.c (.bool false)))⟩])
  (.cond (.s 42) (.seq (.region [⟨none, (some 43), .inl (.mv (.s 7))⟩,
     ⟨none, (some 4), .inl (.mv (.s 43))⟩])
   (.ret))
  (.skip))))
  (.region [⟨none, (some 18), .inl (.mv (.s 7))⟩,
    ⟨none, (some 19), .inl (.bin .add (.s 18) (.c (.int .i64 1)))⟩,
    ⟨none, (some 7), .inl (.mv (.s 19))⟩]))
/-- gyttja/gyttjaref01.At -/
def k85 : Cd :=
  .seq (.region [⟨none, (some 2), .inl (.box 26 4 (.s 0))⟩,
    ⟨none, (some 4), .inl (.mv (.c (.int .i64 0)))⟩])
  (.seq (.region [⟨none, (some 9), .inl (.mv (.s 1))⟩,
    ⟨none, (some 10), .inr (.fn 20 [(.s 9)])⟩,
    ⟨none, (some 8), .inl (.mv (.s 10))⟩,
    ⟨none, (some 11), .inl (.ex (.s 8) 0)⟩,
    ⟨none, (some 12), .inl (.ex (.s 8) 1)⟩,
    ⟨none, (some 5), .inl (.mv (.s 11))⟩,
    ⟨none, (some 6), .inl (.mv (.s 12))⟩])
  (.seq (.seq (.region [⟨none, (some 7), .inl (.mv (.c (.int .i64 0)))⟩])
  (.block 0 (.loop k85l0)))
  (.seq (.region [⟨none, (some 4), .inl (.mv (.c (.int .i64 (-1))))⟩])
  (.ret))))
/-- gyttja/sheet.checkInside -/
def k86 : Cd :=
  .seq (.region [⟨none, (some 3), .inl (.box 26 4 (.s 0))⟩,
    ⟨none, (some 6), .inl (.mv (.c (.int .i64 0)))⟩])
  (.seq (.seq (.region [⟨none, (some 8), .inl (.ld true 4 (.s 3))⟩,
    ⟨none, (some 9), .inl (.mv (.s 1))⟩,
    ⟨none, (some 10), .inl (.mv (.s 2))⟩,
    ⟨none, (some 11), .inr (.fn 83 [(.s 8), (.s 9), (.s 10)])⟩,
    ⟨none, (some 7), .inl (.mv (.s 11))⟩])
  (.seq (.region [⟨none, (some 12), .inl (.mv (.s 7))⟩,
    ⟨none, (some 13), .inl (.bin .neq (.s 12) (.c (.int .i64 0)))⟩])
  (.cond (.s 13) (.seq (.region [⟨none, (some 14), .inl (.mv (.s 7))⟩,
     ⟨none, (some 6), .inl (.mv (.s 14))⟩])
   (.ret))
  (.skip))))
  (.seq (.seq (.region [⟨none, (some 15), .inl (.mv (.s 2))⟩,
    ⟨none, (some 16), .inl (.mv (.s 1))⟩,
    ⟨none, (some 17), .inl (.bin .leq (.s 15) (.s 16))⟩])
  (.cond (.s 17) (.seq (.region [⟨none, (some 6), .inl (.mv (.c (.int .i64 15)))⟩])
   (.ret))
  (.skip)))
  (.seq (.region [⟨none, (some 6), .inl (.mv (.c (.int .i64 0)))⟩])
  (.ret))))
/-- slices.Clone[[]gyttja/api.Row,gyttja/api.Row] -/
def k87 : Cd :=
  .seq (.region [⟨none, (some 2), .inl (.mv (.c (.slice none 0 0)))⟩])
  (.seq (.seq (.region [⟨none, (some 3), .inl (.mv (.s 0))⟩,
    ⟨none, (some 4), .inl (.eq false (.nil .slice) (.s 3) (.c (.slice none 0 0)))⟩])
  (.cond (.s 4) (.seq (.region [⟨none, (some 2), .inl (.mv (.c (.slice none 0 0)))⟩])
   (.ret))
  (.skip)))
  (.seq (.region [⟨none, (some 5), .inl (.bs 23 3 0 [(.int .i64 0), (.int .i64 0), (.int .i64 0)] [])⟩,
    ⟨none, (some 6), .inl (.mv (.s 0))⟩,
    ⟨none, (some 7), .inl (.app 23 3 24 (.s 5) (.s 6))⟩,
    ⟨none, (some 2), .inl (.mv (.s 7))⟩])
  (.ret)))
/-- gyttja/sheet.rowOf -/
def k88 : Cd :=
  .seq (.region [⟨none, (some 2), .inl (.box 26 4 (.s 0))⟩,
    ⟨none, (some 4), .inl (.mv (.c (.int .i64 0)))⟩])
  (.seq (.region [⟨none, (some 8), .inl (.mv (.s 1))⟩,
    ⟨none, (some 9), .inr (.fn 19 [(.s 8)])⟩,
    ⟨none, (some 7), .inl (.mv (.s 9))⟩,
    ⟨none, (some 10), .inl (.ex (.s 7) 0)⟩,
    ⟨none, (some 11), .inl (.ex (.s 7) 1)⟩,
    ⟨none, (some 5), .inl (.mv (.s 10))⟩,
    ⟨none, (some 6), .inl (.mv (.s 11))⟩])
  (.seq (.seq (.region [⟨none, (some 12), .inl (.mv (.s 5))⟩,
    ⟨none, (some 13), .inl (.fa (.s 2) 2)⟩,
    ⟨none, (some 14), .inl (.ld false 1 (.s 13))⟩,
    ⟨none, (some 15), .inl (.bin .neq (.s 12) (.s 14))⟩])
  (.cond (.s 15) (.seq (.region [⟨none, (some 4), .inl (.mv (.c (.int .i64 (-1))))⟩])
   (.ret))
  (.skip)))
  (.seq (.region [⟨none, (some 16), .inl (.fa (.s 2) 3)⟩,
    ⟨none, (some 17), .inl (.ld false 1 (.s 16))⟩,
    ⟨none, (some 18), .inl (.mv (.s 6))⟩,
    ⟨none, (some 19), .inl (.bld [(.int .i64 0), (.int .i64 0), (.int .i64 0)] [(0, 1, (.c (.int .i64 1))), (1, 1, (.s 18))])⟩,
    ⟨none, (some 20), .inr (.fn 119 [(.s 17), (.s 19)])⟩,
    ⟨none, (some 4), .inl (.mv (.s 20))⟩])
  (.ret))))
/-- gyttja/gyttjaref01.cut -/
def k89 : Cd :=
  .seq (.region [⟨none, (some 4), .inl (.box 26 4 (.s 0))⟩,
    ⟨none, (some 8), .inl (.mv (.c (.int .i64 0)))⟩,
    ⟨none, (some 9), .inl (.mv (.c (.int .i64 0)))⟩,
    ⟨none, (some 10), .inl (.mv (.c (.int .i64 0)))⟩])
  (.seq (.region [⟨none, (some 14), .inl (.ld true 4 (.s 4))⟩,
    ⟨none, (some 15), .inr (.fn 24 [(.s 14)])⟩,
    ⟨none, (some 11), .inl (.mv (.s 15))⟩])
  (.seq (.seq (.region [⟨none, (some 16), .inl (.mv (.s 11))⟩,
    ⟨none, (some 17), .inl (.bin .neq (.s 16) (.c (.int .i64 0)))⟩])
  (.cond (.s 17) (.seq (.region [⟨none, (some 18), .inl (.mv (.s 11))⟩,
     ⟨none, (some 8), .inl (.mv (.c (.int .i64 0)))⟩,
     ⟨none, (some 9), .inl (.mv (.c (.int .i64 0)))⟩,
     ⟨none, (some 10), .inl (.mv (.s 18))⟩])
   (.ret))
  (.skip)))
  (.seq (.region [⟨none, (some 19), .inl (.ld true 4 (.s 4))⟩,
    ⟨none, (some 20), .inl (.mv (.s 1))⟩,
    ⟨none, (some 21), .inr (.fn 85 [(.s 19), (.s 20)])⟩,
    ⟨none, (some 12), .inl (.mv (.s 21))⟩])
  (.seq (.region [⟨none, (some 22), .inl (.ld true 4 (.s 4))⟩,
    ⟨none, (some 23), .inl (.mv (.s 2))⟩,
    ⟨none, (some 24), .inr (.fn 85 [(.s 22), (.s 23)])⟩,
    ⟨none, (some 13), .inl (.mv (.s 24))⟩])
  (.seq (.seq (.region [⟨none, (some 25), .inl (.mv (.s 12))⟩,
    ⟨none, (some 26), .inl (.bin .lss (.s 25) (.c (.int .i64 0)))⟩,
    ⟨none, (some 27), .inl (.mv (.s 26))⟩,
    ⟨(some (27, false)), (some 28), .inl (.mv (.s 13))⟩,
    ⟨(some (27, false)), (some 29), .inl (.bin .lss (.s 28) (.c (.int .i64 0)))⟩,
    ⟨none, (some 30), .inl (.pick (.s 27) (.c (.bool true)) (.s 29))⟩])
  (.cond (.s 30) (.seq (.region [⟨none, (some 8), .inl (.mv (.c (.int .i64 0)))⟩,
     ⟨none, (some 9), .inl (.mv (.c (.int .i64 0)))⟩,
     ⟨none, (some 10), .inl (.mv (.c (.int .i64 3)))⟩])
   (.ret))
  (.skip)))
  (.seq (.seq (.region [⟨none, (some 31), .inl (.mv (.s 12))⟩,
    ⟨none, (some 32), .inl (.mv (.s 13))⟩,
    ⟨none, (some 33), .inl (.bin .gtr (.s 31) (.s 32))⟩,
    ⟨none, (some 34), .inl (.mv (.s 33))⟩,
    ⟨(some (34, false)), (some 35), .inl (.mv (.s 3))⟩,
    ⟨(some (34, false)), (some 36), .inl (.mv (.s 35))⟩,
    ⟨(some (36, true)), (some 37), .inl (.mv (.s 12))⟩,
    ⟨(some (36, true)), (some 38), .inl (.mv (.s 13))⟩,
    ⟨(some (36, true)), (some 39), .inl (.bin .eql (.s 37) (.s 38))⟩,
    ⟨(some (34, false)), (some 40), .inl (.pick (.s 36) (.s 39) (.c (.bool false)))⟩,
    ⟨none, (some 41), .inl (.pick (.s 34) (.c (.bool true)) (.s 40))⟩])
  (.cond (.s 41) (.seq (.region [⟨none, (some 8), .inl (.mv (.c (.int .i64 0)))⟩,
     ⟨none, (some 9), .inl (.mv (.c (.int .i64 0)))⟩,
     ⟨none, (some 10), .inl (.mv (.c (.int .i64 15)))⟩])
   (.ret))
  (.skip)))
  (.seq (.region [⟨none, (some 42), .inl (.mv (.s 12))⟩,
    ⟨none, (some 43), .inl (.mv (.s 13))⟩,
    ⟨none, (some 8), .inl (.mv (.s 42))⟩,
    ⟨none, (some 9), .inl (.mv (.s 43))⟩,
    ⟨none, (some 10), .inl (.mv (.c (.int .i64 0)))⟩])
  (.ret))))))))
def k90l0 : Cd :=
  .seq (.region [⟨none, (some 12), .inl (.bin .lss (.s 11) (.s 10))⟩])
  (.seq (.cond (.s 12) (.skip)
  (.exit 0))
  (.seq (.block 1 (.seq (.region [⟨none, (some 13), .inl (.ias 1 (.s 9) (.s 11))⟩,
    ⟨none, (some 14), .inl (.ld false 1 (.s 13))⟩,
    ⟨none, (some 5), .inl (.mv (.s 14))⟩])
  (.seq (.region [⟨none, (some 15), .inl (.mv (.s 3))⟩,
    ⟨none, (some 16), .inl (.mv (.s 5))⟩,
    ⟨none, (some 17), .inl (.len (.s 16))⟩,
    ⟨none, (some 18), .inl (.bin .add (.s 15) (.s 17))⟩,
    ⟨none, (some 3), .inl (.mv (.s 18))⟩])
  (.seq (.region [⟨none, (some 19), .inl (.mv (.s 3))⟩,
    ⟨none, (some 20), .inl (.bin .lss (.s 19) (.c (.int .i64 0)))⟩])
  (.cond (.s 20) (.region [⟨none, (some 21), .inl (.mki 9 (.c (.string ⟨#[108, 101, 110, 32, 111, 117, 116, 32, 111, 102, 32, 114, 97, 110, 103, 101]⟩)))⟩,
     ⟨none, none, .inr (.pan (.s 21))⟩])
  (.skip))))))
  (.region [⟨none, (some 22), .inl (.bin .add (.s 11) (.c (.int .i64 1)))⟩,
    ⟨none, (some 11), .inl (.mv (.s 22))⟩])))
def k90l1 : Cd :=
  .seq (.region [⟨none, (some 28), .inl (.bin .lss (.s 27) (.s 26))⟩])
  (.seq (.cond (.s 28) (.skip)
  (.exit 2))
  (.seq (.block 3 (.seq (.region [⟨none, (some 29), .inl (.ias 1 (.s 25) (.s 27))⟩,
    ⟨none, (some 30), .inl (.ld false 1 (.s 29))⟩,
    ⟨none, (some 8), .inl (.mv (.s 30))⟩])
  (.region [⟨none, (some 31), .inl (.mv (.s 6))⟩,
    ⟨none, (some 32), .inl (.mv (.s 8))⟩,
    ⟨none, (some 33), .inl (.app 23 3 24 (.s 31) (.s 32))⟩,
    ⟨none, (some 6), .inl (.mv (.s 33))⟩])))
  (.region [⟨none, (some 34), .inl (.bin .add (.s 27) (.c (.int .i64 1)))⟩,
    ⟨none, (some 27), .inl (.mv (.s 34))⟩])))
/-- slices.Concat[[]gyttja/api.Row,gyttja/api.Row] -/
def k90 : Cd :=
  .seq (.region [⟨none, (some 2), .inl (.mv (.c (.slice none 0 0)))⟩])
  (.seq (.region [⟨none, (some 3), .inl (.mv (.c (.int .i64 0)))⟩])
  (.seq (.seq (.region [⟨none, (some 9), .inl (.mv (.s 0))⟩,
    ⟨none, (some 10), .inl (.len (.s 9))⟩,
    ⟨none, (some 11), .inl (.mv (.c (.int .i64 0)))⟩])
  (.block 0 (.loop k90l0)))
  (.seq (.region [⟨none, (some 23), .inl (.mv (.s 3))⟩,
    ⟨none, (some 24), .inr (.fn 120 [(.c (.slice none 0 0)), (.s 23)])⟩,
    ⟨none, (some 6), .inl (.mv (.s 24))⟩])
  (.seq (.seq (.region [⟨none, (some 25), .inl (.mv (.s 0))⟩,
    ⟨none, (some 26), .inl (.len (.s 25))⟩,
    ⟨none, (some 27), .inl (.mv (.c (.int .i64 0)))⟩])
  (.block 2 (.loop k90l1)))
  (.seq (.region [⟨none, (some 35), .inl (.mv (.s 6))⟩,
    ⟨none, (some 2), .inl (.mv (.s 35))⟩])
  (.ret))))))
/-- gyttja/pick.Index -/
def k91 : Cd :=
  .seq (.region [⟨none, (some 6), .inl (.mv (.c (.int .i64 0)))⟩])
  (.seq (.seq (.region [⟨none, (some 8), .inl (.mv (.s 0))⟩,
    ⟨none, (some 9), .inl (.len (.s 8))⟩,
    ⟨none, (some 10), .inl (.bin .eql (.s 9) (.c (.int .i64 0)))⟩,
    ⟨none, (some 11), .inl (.mv (.s 10))⟩,
    ⟨(some (11, false)), (some 12), .inl (.mv (.s 2))⟩,
    ⟨(some (11, false)), (some 13), .inl (.bin .lss (.s 12) (.c (.int .i64 1)))⟩,
    ⟨none, (some 14), .inl (.pick (.s 11) (.c (.bool true)) (.s 13))⟩])
  (.cond (.s 14) (.seq (.region [⟨none, (some 6), .inl (.mv (.c (.int .i64 0)))⟩])
   (.ret))
  (.skip)))
  (.seq (.region [⟨none, (some 15), .inl (.mv (.s 0))⟩,
    ⟨none, (some 16), .inl (.mv (.s 1))⟩,
    ⟨none, (some 17), .inl (.mv (.s 0))⟩,
    ⟨none, (some 18), .inl (.len (.s 17))⟩,
    ⟨none, (some 19), .inl (.bin .rem (.s 16) (.s 18))⟩,
    ⟨none, (some 20), .inl (.ias 1 (.s 15) (.s 19))⟩,
    ⟨none, (some 21), .inl (.ld false 1 (.s 20))⟩,
    ⟨none, (some 22), .inl (.mv (.s 2))⟩,
    ⟨none, (some 23), .inl (.bin .rem (.s 21) (.s 22))⟩,
    ⟨none, (some 7), .inl (.mv (.s 23))⟩])
  (.seq (.seq (.region [⟨none, (some 24), .inl (.mv (.s 7))⟩,
    ⟨none, (some 25), .inl (.bin .lss (.s 24) (.c (.int .i64 0)))⟩])
  (.cond (.s 25) (.region [⟨none, (some 26), .inl (.mv (.s 7))⟩,
     ⟨none, (some 27), .inl (.mv (.s 2))⟩,
     ⟨none, (some 28), .inl (.bin .add (.s 26) (.s 27))⟩,
     ⟨none, (some 7), .inl (.mv (.s 28))⟩])
  (.skip)))
  (.seq (.region [⟨none, (some 29), .inl (.mv (.s 7))⟩,
    ⟨none, (some 6), .inl (.mv (.s 29))⟩])
  (.ret)))))
/-- gyttja/sheet.yearsOf -/
def k92 : Cd :=
  .seq (.region [⟨none, (some 2), .inl (.box 82 7 (.s 0))⟩,
    ⟨none, (some 4), .inl (.mv (.c (.slice none 0 0)))⟩])
  (.seq (.seq (.region [⟨none, (some 5), .inl (.fa (.s 2) 5)⟩,
    ⟨none, (some 6), .inl (.ld false 1 (.s 5))⟩])
  (.cond (.s 6) (.seq (.region [⟨none, (some 7), .inl (.mv (.s 1))⟩,
     ⟨none, (some 8), .inl (.mks 3 1 8 [(.int .i64 0)] (.s 7) (.s 7))⟩,
     ⟨none, (some 4), .inl (.mv (.s 8))⟩])
   (.ret))
  (.skip)))
  (.seq (.seq (.region [⟨none, (some 9), .inl (.mv (.s 1))⟩,
    ⟨none, (some 10), .inl (.fa (.s 2) 3)⟩,
    ⟨none, (some 11), .inl (.ld false 1 (.s 10))⟩,
    ⟨none, (some 12), .inl (.len (.s 11))⟩,
    ⟨none, (some 13), .inl (.bin .lss (.s 9) (.s 12))⟩])
  (.cond (.s 13) (.seq (.region [⟨none, (some 14), .inl (.fa (.s 2) 3)⟩,
     ⟨none, (some 15), .inl (.ld false 1 (.s 14))⟩,
     ⟨none, (some 16), .inr (.fn 82 [(.s 15)])⟩,
     ⟨none, (some 17), .inl (.bs 3 1 1 [(.int .i64 0)] [(0, (.s 16))])⟩,
     ⟨none, (some 4), .inl (.mv (.s 17))⟩])
   (.ret))
  (.skip)))
  (.seq (.region [⟨none, (some 18), .inl (.fa (.s 2) 3)⟩,
    ⟨none, (some 19), .inl (.ld false 1 (.s 18))⟩,
    ⟨none, (some 4), .inl (.mv (.s 19))⟩])
  (.ret))))
/-- gyttja/gyttjaref01.Pick -/
def k93 : Cd :=
  .seq (.region [⟨none, (some 4), .inl (.mv (.c (.int .i64 0)))⟩])
  (.seq (.seq (.region [⟨none, (some 5), .inl (.mv (.s 0))⟩,
    ⟨none, (some 6), .inl (.len (.s 5))⟩,
    ⟨none, (some 7), .inl (.bin .eql (.s 6) (.c (.int .i64 0)))⟩])
  (.cond (.s 7) (.seq (.region [⟨none, (some 4), .inl (.mv (.c (.int .i64 0)))⟩])
   (.ret))
  (.skip)))
  (.seq (.region [⟨none, (some 8), .inl (.mv (.s 0))⟩,
    ⟨none, (some 9), .inl (.mv (.s 1))⟩,
    ⟨none, (some 10), .inl (.mv (.s 0))⟩,
    ⟨none, (some 11), .inl (.len (.s 10))⟩,
    ⟨none, (some 12), .inl (.bin .rem (.s 9) (.s 11))⟩,
    ⟨none, (some 13), .inl (.ias 1 (.s 8) (.s 12))⟩,
    ⟨none, (some 14), .inl (.ld false 1 (.s 13))⟩,
    ⟨none, (some 4), .inl (.mv (.s 14))⟩])
  (.ret)))
/-- gyttja/sheet.hidden -/
def k94 : Cd :=
  .seq (.region [⟨none, (some 2), .inl (.mv (.c (.int .i64 0)))⟩])
  (.seq (.region [⟨none, (some 4), .inl (.mv (.s 0))⟩,
    ⟨none, (some 5), .inr (.fn 121 [(.s 4), (.f 122)])⟩,
    ⟨none, (some 3), .inl (.mv (.s 5))⟩])
  (.seq (.seq (.region [⟨none, (some 6), .inl (.mv (.s 3))⟩,
    ⟨none, (some 7), .inl (.bin .lss (.s 6) (.c (.int .i64 0)))⟩])
  (.cond (.s 7) (.seq (.region [⟨none, (some 8), .inl (.mv (.s 0))⟩,
     ⟨none, (some 9), .inl (.len (.s 8))⟩,
     ⟨none, (some 2), .inl (.mv (.s 9))⟩])
   (.ret))
  (.skip)))
  (.seq (.region [⟨none, (some 10), .inl (.mv (.s 3))⟩,
    ⟨none, (some 2), .inl (.mv (.s 10))⟩])
  (.ret))))
/-- gyttja/sheet.startsWith -/
def k95 : Cd :=
  .seq (.region [⟨none, (some 4), .inl (.mv (.c (.bool false)))⟩])
  (.seq (.region [⟨none, (some 5), .inl (.mv (.s 1))⟩,
    ⟨none, (some 6), .inl (.len (.s 5))⟩,
    ⟨none, (some 7), .inl (.mv (.s 0))⟩,
    ⟨none, (some 8), .inl (.len (.s 7))⟩,
    ⟨none, (some 9), .inl (.bin .leq (.s 6) (.s 8))⟩,
    ⟨none, (some 10), .inl (.mv (.s 9))⟩,
    ⟨(some (10, true)), (some 11), .inl (.mv (.s 0))⟩,
    ⟨(some (10, true)), (some 12), .inl (.mv (.s 1))⟩,
    ⟨(some (10, true)), (some 13), .inl (.len (.s 12))⟩,
    ⟨(some (10, true)), (some 14), .inl (.slc 1 (.s 11) none (some (.s 13)) none)⟩,
    ⟨(some (10, true)), (some 15), .inl (.mv (.s 1))⟩,
    ⟨(some (10, true)), (some 16), .inr (.fn 123 [(.s 14), (.s 15)])⟩,
    ⟨none, (some 17), .inl (.pick (.s 10) (.s 16) (.c (.bool false)))⟩,
    ⟨none, (some 4), .inl (.mv (.s 17))⟩])
  (.ret))
def k96l0 : Cd :=
  .seq (.seq (.region [⟨none, (some 99), .inl (.mv (.s 11))⟩,
    ⟨none, (some 100), .inl (.ld true 3 (.s 4))⟩,
    ⟨none, (some 101), .inr (.fn 80 [(.s 100)])⟩,
    ⟨none, (some 102), .inl (.bin .leq (.s 99) (.s 101))⟩,
    ⟨none, (some 103), .inl (.mv (.s 102))⟩,
    ⟨(some (103, true)), (some 104), .inl (.mv (.s 8))⟩,
    ⟨(some (103, true)), (some 105), .inl (.mv (.s 11))⟩,
    ⟨(some (103, true)), (some 106), .inl (.bin .add (.s 104) (.s 105))⟩,
    ⟨(some (103, true)), (some 107), .inl (.mv (.s 7))⟩,
    ⟨(some (103, true)), (some 108), .inl (.len (.s 107))⟩,
    ⟨(some (103, true)), (some 109), .inl (.bin .lss (.s 106) (.s 108))⟩,
    ⟨none, (some 110), .inl (.pick (.s 103) (.s 109) (.c (.bool false)))⟩])
  (.cond (.s 110) (.skip)
  (.exit 3)))
  (.seq (.block 4 (.seq (.seq (.region [⟨none, (some 113), .inl (.mv (.s 11))⟩,
    ⟨none, (some 114), .inl (.bin .gtr (.s 113) (.c (.int .i64 0)))⟩,
    ⟨none, (some 115), .inl (.mv (.s 114))⟩,
    ⟨(some (115, true)), (some 116), .inl (.mv (.s 2))⟩,
    ⟨(some (115, true)), (some 117), .inl (.mv (.s 8))⟩,
    ⟨(some (115, true)), (some 118), .inl (.mv (.s 11))⟩,
    ⟨(some (115, true)), (some 119), .inl (.bin .add (.s 117) (.s 118))⟩,
    ⟨(some (115, true)), (some 120), .inl (.bin .sub (.s 119) (.c (.int .i64 1)))⟩,
    ⟨(some (115, true)), (some 121), .inl (.ias 1 (.s 116) (.s 120))⟩,
    ⟨(some (115, true)), (some 122), .inl (.ld false 1 (.s 121))⟩,
    ⟨(some (115, true)), (some 123), .inl (.bin .neq (.s 122) (.c (.int .i64 0)))⟩,
    ⟨none, (some 124), .inl (.pick (.s 115) (.s 123) (.c (.bool false)))⟩])
  (.cond (.s 124) (.exit 3)
  (.skip)))
  (.seq (.region [⟨none, (some 125), .inl (.mv (.s 11))⟩,
    ⟨none, (some 126), .inl (.ld true 3 (.s 4))⟩,
    ⟨none, (some 127), .inr (.fn 79 [(.s 126)])⟩,
    ⟨none, (some 128), .inl (.bin .geq (.s 125) (.s 127))⟩])
  (.cond (.s 128) (.region [⟨none, (some 129), .inl (.mv (.s 7))⟩,
     ⟨none, (some 130), .inl (.mv (.s 8))⟩,
     ⟨none, (some 131), .inl (.mv (.s 11))⟩,
     ⟨none, (some 132), .inl (.bin .add (.s 130) (.s 131))⟩,
     ⟨none, (some 133), .inl (.ias 1 (.s 129) (.s 132))⟩,
     ⟨none, none, .inl (.st 1 (.s 133) (.c (.bool true)))⟩])
  (.skip)))))
  (.region [⟨none, (some 111), .inl (.mv (.s 11))⟩,
    ⟨none, (some 112), .inl (.bin .add (.s 111) (.c (.int .i64 1)))⟩,
    ⟨none, (some 11), .inl (.mv (.s 112))⟩]))
def k96l1 : Cd :=
  .seq (.seq (.region [⟨none, (some 15), .inl (.mv (.s 8))⟩,
    ⟨none, (some 16), .inl (.mv (.s 0))⟩,
    ⟨none, (some 17), .inl (.len (.s 16))⟩,
    ⟨none, (some 18), .inl (.bin .lss (.s 15) (.s 17))⟩])
  (.cond (.s 18) (.skip)
  (.exit 0)))
  (.seq (.block 1 (.seq (.seq (.region [⟨none, (some 21), .inl (.mv (.s 0))⟩,
    ⟨none, (some 22), .inl (.mv (.s 8))⟩,
    ⟨none, (some 23), .inl (.ias 1 (.s 21) (.s 22))⟩,
    ⟨none, (some 24), .inl (.ld false 1 (.s 23))⟩,
    ⟨none, (some 25), .inl (.not (.s 24))⟩])
  (.cond (.s 25) (.exit 1)
  (.skip)))
  (.seq (.region [⟨none, (some 26), .inl (.mv (.s 8))⟩,
    ⟨none, (some 27), .inl (.mv (.s 2))⟩,
    ⟨none, (some 28), .inl (.len (.s 27))⟩,
    ⟨none, (some 29), .inl (.bin .lss (.s 26) (.s 28))⟩,
    ⟨none, (some 9), .inl (.mv (.s 29))⟩])
  (.seq (.region [⟨none, (some 30), .inl (.mv (.s 8))⟩,
    ⟨none, (some 31), .inl (.bin .add (.s 30) (.c (.int .i64 1)))⟩,
    ⟨none, (some 32), .inl (.mv (.s 2))⟩,
    ⟨none, (some 33), .inl (.len (.s 32))⟩,
    ⟨none, (some 34), .inl (.bin .lss (.s 31) (.s 33))⟩,
    ⟨none, (some 10), .inl (.mv (.s 34))⟩])
  (.seq (.region [⟨none, (some 35), .inl (.fa (.s 4) 0)⟩,
    ⟨none, (some 36), .inl (.ld false 1 (.s 35))⟩])
  (.block 2 (.seq (.region [⟨none, (some 38), .inl (.bin .eql (.s 36) (.c (.int .i64 2)))⟩,
    ⟨none, (some 37), .inl (.mv (.s 38))⟩])
  (.cond (.s 37) (.seq (.draw [⟨⟨none, (some 39), .inl (.mv (.s 9))⟩, (some []), [], 0, false⟩,
     ⟨⟨none, (some 40), .inl (.mv (.s 39))⟩, (some []), [], 1, false⟩,
     ⟨⟨(some (40, true)), (some 41), .inl (.mv (.s 2))⟩, (some []), [], 3, false⟩,
     ⟨⟨(some (40, true)), (some 42), .inl (.mv (.s 8))⟩, (some []), [], 3, false⟩,
     ⟨⟨(some (40, true)), (some 43), .inl (.ias 1 (.s 41) (.s 42))⟩, (some []), [], 15, false⟩,
     ⟨⟨(some (40, true)), (some 44), .inl (.ld false 1 (.s 43))⟩, (some []), [], 31, false⟩,
     ⟨⟨(some (40, true)), (some 45), .inl (.fa (.s 4) 1)⟩, (some []), [], 3, false⟩,
     ⟨⟨(some (40, true)), (some 46), .inl (.ld false 1 (.s 45))⟩, (some []), [], 67, false⟩,
     ⟨⟨(some (40, true)), (some 47), .inl (.bin .eql (.s 44) (.s 46))⟩, (some []), [], 255, false⟩,
     ⟨⟨none, (some 48), .inl (.pick (.s 40) (.s 47) (.c (.bool false)))⟩, (some []), [], 511, false⟩])
   (.cond (.s 48) (.region [⟨none, (some 49), .inl (.mv (.s 7))⟩,
      ⟨none, (some 50), .inl (.mv (.s 8))⟩,
      ⟨none, (some 51), .inl (.bin .add (.s 50) (.c (.int .i64 1)))⟩,
      ⟨none, (some 52), .inl (.ias 1 (.s 49) (.s 51))⟩,
      ⟨none, none, .inl (.st 1 (.s 52) (.c (.bool true)))⟩])
   (.skip)))
  (.seq (.region [⟨none, (some 54), .inl (.bin .eql (.s 36) (.c (.int .i64 3)))⟩,
     ⟨none, (some 53), .inl (.mv (.s 54))⟩])
   (.cond (.s 53) (.seq (.seq (.draw [⟨⟨none, (some 55), .inl (.mv (.s 9))⟩, (some []), [], 0, false⟩,
      ⟨⟨none, (some 56), .inl (.mv (.s 55))⟩, (some []), [], 1, false⟩,
      ⟨⟨(some (56, true)), (some 57), .inl (.mv (.s 2))⟩, (some []), [], 3, false⟩,
      ⟨⟨(some (56, true)), (some 58), .inl (.mv (.s 8))⟩, (some []), [], 3, false⟩,
      ⟨⟨(some (56, true)), (some 59), .inl (.ias 1 (.s 57) (.s 58))⟩, (some []), [], 15, false⟩,
      ⟨⟨(some (56, true)), (some 60), .inl (.ld false 1 (.s 59))⟩, (some []), [], 31, false⟩,
      ⟨⟨(some (56, true)), (some 61), .inl (.fa (.s 4) 1)⟩, (some []), [], 3, false⟩,
      ⟨⟨(some (56, true)), (some 62), .inl (.ld false 1 (.s 61))⟩, (some []), [], 67, false⟩,
      ⟨⟨(some (56, true)), (some 63), .inl (.fa (.s 4) 2)⟩, (some []), [], 3, false⟩,
      ⟨⟨(some (56, true)), (some 64), .inl (.ld false 1 (.s 63))⟩, (some []), [], 259, false⟩,
      ⟨⟨(some (56, true)), (some 65), .inl (.bin .add (.s 62) (.s 64))⟩, (some []), [], 963, false⟩,
      ⟨⟨(some (56, true)), (some 66), .inl (.bin .eql (.s 60) (.s 65))⟩, (some []), [], 2047, false⟩,
      ⟨⟨none, (some 67), .inl (.pick (.s 56) (.s 66) (.c (.bool false)))⟩, (some []), [], 4095, false⟩])
    (.cond (.s 67) (.region [⟨none, (some 68), .inl (.mv (.s 7))⟩,
       ⟨none, (some 69), .inl (.mv (.s 8))⟩,
       ⟨none, (some 70), .inl (.bin .add (.s 69) (.c (.int .i64 1)))⟩,
       ⟨none, (some 71), .inl (.ias 1 (.s 68) (.s 70))⟩,
       ⟨none, none, .inl (.st 1 (.s 71) (.c (.bool true)))⟩])
    (.skip)))
    (.seq (.draw [⟨⟨none, (some 72), .inl (.mv (.s 10))⟩, (some []), [], 0, false⟩,
      ⟨⟨none, (some 73), .inl (.mv (.s 72))⟩, (some []), [], 1, false⟩,
      ⟨⟨(some (73, true)), (some 74), .inl (.mv (.s 2))⟩, (some []), [], 3, false⟩,
      ⟨⟨(some (73, true)), (some 75), .inl (.mv (.s 8))⟩, (some []), [], 3, false⟩,
      ⟨⟨(some (73, true)), (some 76), .inl (.ias 1 (.s 74) (.s 75))⟩, (some []), [], 15, false⟩,
      ⟨⟨(some (73, true)), (some 77), .inl (.ld false 1 (.s 76))⟩, (some []), [], 31, false⟩,
      ⟨⟨(some (73, true)), (some 78), .inl (.fa (.s 4) 1)⟩, (some []), [], 3, false⟩,
      ⟨⟨(some (73, true)), (some 79), .inl (.ld false 1 (.s 78))⟩, (some []), [], 67, false⟩,
      ⟨⟨(some (73, true)), (some 80), .inl (.bin .eql (.s 77) (.s 79))⟩, (some []), [], 255, false⟩,
      ⟨⟨none, (some 81), .inl (.pick (.s 73) (.s 80) (.c (.bool false)))⟩, (some []), [], 511, false⟩,
      ⟨⟨none, (some 82), .inl (.mv (.s 81))⟩, (some []), [], 1023, false⟩,
      ⟨⟨(some (82, true)), (some 83), .inl (.mv (.s 2))⟩, (some []), [], 2047, false⟩,
      ⟨⟨(some (82, true)), (some 84), .inl (.mv (.s 8))⟩, (some []), [], 2047, false⟩,
      ⟨⟨(some (82, true)), (some 85), .inl (.bin .add (.s 84) (.c (.int .i64 1)))⟩, (some []), [], 6143, false⟩,
      ⟨⟨(some (82, true)), (some 86), .inl (.ias 1 (.s 83) (.s 85))⟩, (some []), [], 16383, false⟩,
      ⟨⟨(some (82, true)), (some 87), .inl (.ld false 1 (.s 86))⟩, (some []), [], 32767, false⟩,
      ⟨⟨(some (82, true)), (some 88), .inl (.fa (.s 4) 2)⟩, (some []), [], 2047, false⟩,
      ⟨⟨(some (82, true)), (some 89), .inl (.ld false 1 (.s 88))⟩, (some []), [], 67583, false⟩,
      ⟨⟨(some (82, true)), (some 90), .inl (.bin .eql (.s 87) (.s 89))⟩, (some []), [], 262143, false⟩,
      ⟨⟨none, (some 91), .inl (.pick (.s 82) (.s 90) (.c (.bool false)))⟩, (some []), [], 524287, false⟩])
    (.cond (.s 91) (.region [⟨none, (some 92), .inl (.mv (.s 7))⟩,
       ⟨none, (some 93), .inl (.mv (.s 8))⟩,
       ⟨none, (some 94), .inl (.bin .add (.s 93) (.c (.int .i64 2)))⟩,
       ⟨none, (some 95), .inl (.ias 1 (.s 92) (.s 94))⟩,
       ⟨none, none, .inl (.st 1 (.s 95) (.c (.bool true)))⟩])
    (.skip))))
   (.seq (.seq (.region [⟨none, (some 97), .inl (.bin .eql (.s 36) (.c (.int .i64 4)))⟩,
      ⟨none, (some 96), .inl (.mv (.s 97))⟩])
    (.cond (.s 96) (.skip)
    (.region [⟨none, (some 98), .inl (.bin .eql (.s 36) (.c (.int .i64 6)))⟩,
       ⟨none, (some 96), .inl (.mv (.s 98))⟩])))
    (.cond (.s 96) (.seq (.region [⟨none, (some 11), .inl (.mv (.c (.int .i64 0)))⟩])
     (.block 3 (.loop k96l0)))
    (.skip)))))))))))))
  (.region [⟨none, (some 19), .inl (.mv (.s 8))⟩,
    ⟨none, (some 20), .inl (.bin .add (.s 19) (.c (.int .i64 1)))⟩,
    ⟨none, (some 8), .inl (.mv (.s 20))⟩]))
/-- gyttja/gyttjaref01.step -/
def k96 : Cd :=
  .seq (.region [⟨none, (some 4), .inl (.box 23 3 (.s 1))⟩,
    ⟨none, (some 6), .inl (.mv (.c (.slice none 0 0)))⟩])
  (.seq (.region [⟨none, (some 12), .inl (.mv (.s 0))⟩,
    ⟨none, (some 13), .inl (.len (.s 12))⟩,
    ⟨none, (some 14), .inl (.mks 4 1 1 [(.bool false)] (.s 13) (.s 13))⟩,
    ⟨none, (some 7), .inl (.mv (.s 14))⟩])
  (.seq (.seq (.region [⟨none, (some 8), .inl (.mv (.c (.int .i64 0)))⟩])
  (.block 0 (.loop k96l1)))
  (.seq (.region [⟨none, (some 134), .inl (.mv (.s 7))⟩,
    ⟨none, (some 6), .inl (.mv (.s 134))⟩])
  (.ret))))
def k101l0 : Cd :=
  .seq (.region [⟨none, (some 10), .inl (.bin .lss (.s 9) (.s 8))⟩])
  (.seq (.cond (.s 10) (.skip)
  (.exit 0))
  (.seq (.block 1 (.seq (.region [⟨none, (some 11), .inl (.ias 3 (.s 7) (.s 9))⟩,
    ⟨none, (some 12), .inl (.ld true 3 (.s 11))⟩,
    ⟨none, (some 5), .inl (.alloc 23 [(.int .i64 0), (.int .i64 0), (.int .i64 0)])⟩,
    ⟨none, none, .inl (.st 3 (.s 5) (.s 12))⟩])
  (.seq (.seq (.region [⟨none, (some 13), .inl (.mv (.s 0))⟩,
    ⟨none, (some 14), .inl (.mv (.s 3))⟩,
    ⟨none, (some 15), .inl (.ld true 3 (.s 5))⟩,
    ⟨none, (some 16), .inr (.val (.s 13) [(.s 14), (.s 15)])⟩,
    ⟨none, (some 17), .inl (.not (.s 16))⟩])
  (.cond (.s 17) (.ret)
  (.skip)))
  (.seq (.region [⟨none, (some 18), .inl (.fa (.s 5) 0)⟩,
    ⟨none, (some 19), .inl (.ld false 1 (.s 18))⟩,
    ⟨none, (some 20), .inl (.bin .eql (.s 19) (.c (.int .i64 1)))⟩])
  (.cond (.s 20) (.region [⟨none, (some 21), .inl (.fa (.s 1) 2)⟩,
     ⟨none, (some 22), .inl (.ld false 1 (.s 21))⟩,
     ⟨none, (some 23), .inl (.fa (.s 5) 1)⟩,
     ⟨none, (some 24), .inl (.ld false 1 (.s 23))⟩,
     ⟨none, (some 25), .inr (.fn 25 [(.s 22), (.s 24)])⟩,
     ⟨none, (some 3), .inl (.mv (.s 25))⟩])
  (.skip))))))
  (.region [⟨none, (some 26), .inl (.bin .add (.s 9) (.c (.int .i64 1)))⟩,
    ⟨none, (some 9), .inl (.mv (.s 26))⟩])))
/-- gyttja/sheet.rowsBelow$1 -/
def k101 : Cd :=
  .seq (.region [⟨none, (some 3), .inl (.mv (.c (.int .i64 (-1))))⟩])
  (.seq (.region [⟨none, (some 6), .inl (.fa (.s 1) 3)⟩,
    ⟨none, (some 7), .inl (.ld false 1 (.s 6))⟩,
    ⟨none, (some 8), .inl (.len (.s 7))⟩,
    ⟨none, (some 9), .inl (.mv (.c (.int .i64 0)))⟩])
  (.block 0 (.loop k101l0)))
/-- gyttja/sheet.kinds$1 -/
def k102 : Cd :=
  .seq (.region [⟨none, (some 1), .inl (.box 23 3 (.s 0))⟩,
    ⟨none, (some 2), .inl (.alloc 82 [(.bool false), (.int .i64 0), (.int .i64 0), (.slice none 0 0), (.int .i64 0), (.bool false), (.bool false)])⟩])
  (.seq (.region [⟨none, (some 3), .inl (.fa (.s 1) 1)⟩,
    ⟨none, (some 4), .inl (.ld false 1 (.s 3))⟩,
    ⟨none, (some 5), .inr (.fn 63 [(.s 4), (.c (.int .i64 0)), (.c (.int .i64 63))])⟩,
    ⟨none, (some 6), .inl (.mv (.s 5))⟩,
    ⟨(some (6, true)), (some 7), .inl (.fa (.s 1) 2)⟩,
    ⟨(some (6, true)), (some 8), .inl (.ld false 1 (.s 7))⟩,
    ⟨(some (6, true)), (some 9), .inl (.bin .eql (.s 8) (.c (.int .i64 0)))⟩,
    ⟨none, (some 10), .inl (.pick (.s 6) (.s 9) (.c (.bool false)))⟩,
    ⟨none, (some 11), .inl (.bld [(.bool false), (.int .i64 0), (.int .i64 0), (.slice none 0 0), (.int .i64 0), (.bool false), (.bool false)] [(0, 1, (.s 10))])⟩,
    ⟨none, none, .inl (.st 7 (.s 2) (.s 11))⟩])
  (.ret))
/-- gyttja/sheet.kinds$2 -/
def k103 : Cd :=
  .seq (.region [⟨none, (some 1), .inl (.box 23 3 (.s 0))⟩,
    ⟨none, (some 2), .inl (.alloc 82 [(.bool false), (.int .i64 0), (.int .i64 0), (.slice none 0 0), (.int .i64 0), (.bool false), (.bool false)])⟩])
  (.seq (.draw [⟨⟨none, (some 3), .inl (.fa (.s 1) 1)⟩, (some []), [], 0, false⟩,
    ⟨⟨none, (some 4), .inl (.ld false 1 (.s 3))⟩, (some []), [.fr 13], 1, false⟩,
    ⟨⟨none, (some 5), .inr (.fn 104 [(.s 4)])⟩, (some []), [.fr 13], 3, false⟩,
    ⟨⟨none, (some 6), .inl (.mv (.s 5))⟩, (some []), [], 7, false⟩,
    ⟨⟨(some (6, true)), (some 7), .inl (.fa (.s 1) 2)⟩, (some []), [], 15, false⟩,
    ⟨⟨(some (6, true)), (some 8), .inl (.ld false 1 (.s 7))⟩, (some []), [.fr 13], 31, false⟩,
    ⟨⟨(some (6, true)), (some 9), .inl (.bin .eql (.s 8) (.c (.int .i64 0)))⟩, (some []), [], 63, false⟩,
    ⟨⟨none, (some 10), .inl (.pick (.s 6) (.s 9) (.c (.bool false)))⟩, (some []), [], 127, false⟩,
    ⟨⟨none, (some 11), .inl (.fa (.s 1) 1)⟩, (some []), [], 0, false⟩,
    ⟨⟨none, (some 12), .inl (.ld false 1 (.s 11))⟩, (some []), [], 256, false⟩,
    ⟨⟨none, (some 13), .inl (.bs 3 1 1 [(.int .i64 0)] [(0, (.s 12))])⟩, (some [.fr 13]), [], 768, false⟩,
    ⟨⟨none, (some 14), .inl (.bld [(.bool false), (.int .i64 0), (.int .i64 0), (.slice none 0 0), (.int .i64 0), (.bool false), (.bool false)] [(0, 1, (.s 10)), (1, 1, (.c (.int .i64 1))), (2, 1, (.c (.int .i64 1))), (3, 1, (.s 13))])⟩, (some []), [], 2047, false⟩,
    ⟨⟨none, none, .inl (.st 7 (.s 2) (.s 14))⟩, (some [.at 2]), [], 4095, false⟩])
  (.ret))
/-- gyttja/sheet.isThick -/
def k104 : Cd :=
  .seq (.region [⟨none, (some 2), .inl (.mv (.c (.bool false)))⟩])
  (.seq (.region [⟨none, (some 3), .inl (.mv (.s 0))⟩,
    ⟨none, (some 4), .inr (.fn 63 [(.s 3), (.c (.int .i64 1)), (.c (.int .i64 100000))])⟩,
    ⟨none, (some 2), .inl (.mv (.s 4))⟩])
  (.ret))
/-- gyttja/sheet.kinds$3 -/
def k105 : Cd :=
  .seq (.region [⟨none, (some 1), .inl (.box 23 3 (.s 0))⟩,
    ⟨none, (some 2), .inl (.alloc 82 [(.bool false), (.int .i64 0), (.int .i64 0), (.slice none 0 0), (.int .i64 0), (.bool false), (.bool false)])⟩])
  (.seq (.draw [⟨⟨none, (some 3), .inl (.fa (.s 1) 1)⟩, (some []), [], 0, false⟩,
    ⟨⟨none, (some 4), .inl (.ld false 1 (.s 3))⟩, (some []), [.fr 15], 1, false⟩,
    ⟨⟨none, (some 5), .inr (.fn 104 [(.s 4)])⟩, (some []), [.fr 15], 3, false⟩,
    ⟨⟨none, (some 6), .inl (.mv (.s 5))⟩, (some []), [], 7, false⟩,
    ⟨⟨(some (6, true)), (some 7), .inl (.fa (.s 1) 2)⟩, (some []), [], 15, false⟩,
    ⟨⟨(some (6, true)), (some 8), .inl (.ld false 1 (.s 7))⟩, (some []), [.fr 15], 31, false⟩,
    ⟨⟨(some (6, true)), (some 9), .inr (.fn 104 [(.s 8)])⟩, (some []), [.fr 15], 63, false⟩,
    ⟨⟨none, (some 10), .inl (.pick (.s 6) (.s 9) (.c (.bool false)))⟩, (some []), [], 127, false⟩,
    ⟨⟨none, (some 11), .inl (.fa (.s 1) 1)⟩, (some []), [], 0, false⟩,
    ⟨⟨none, (some 12), .inl (.ld false 1 (.s 11))⟩, (some []), [], 256, false⟩,
    ⟨⟨none, (some 13), .inl (.fa (.s 1) 2)⟩, (some []), [], 0, false⟩,
    ⟨⟨none, (some 14), .inl (.ld false 1 (.s 13))⟩, (some []), [], 1024, false⟩,
    ⟨⟨none, (some 15), .inl (.bs 3 1 2 [(.int .i64 0)] [(0, (.s 12)), (1, (.s 14))])⟩, (some [.fr 15]), [], 3840, false⟩,
    ⟨⟨none, (some 16), .inl (.bld [(.bool false), (.int .i64 0), (.int .i64 0), (.slice none 0 0), (.int .i64 0), (.bool false), (.bool false)] [(0, 1, (.s 10)), (1, 1, (.c (.int .i64 1))), (2, 1, (.c (.int .i64 2))), (3, 1, (.s 15)), (6, 1, (.c (.bool true)))])⟩, (some []), [], 8191, false⟩,
    ⟨⟨none, none, .inl (.st 7 (.s 2) (.s 16))⟩, (some [.at 2]), [], 16383, false⟩])
  (.ret))
/-- gyttja/sheet.kinds$4 -/
def k106 : Cd :=
  .seq (.region [⟨none, (some 1), .inl (.box 23 3 (.s 0))⟩,
    ⟨none, (some 2), .inl (.alloc 82 [(.bool false), (.int .i64 0), (.int .i64 0), (.slice none 0 0), (.int .i64 0), (.bool false), (.bool false)])⟩])
  (.seq (.draw [⟨⟨none, (some 3), .inl (.fa (.s 1) 1)⟩, (some []), [], 0, false⟩,
    ⟨⟨none, (some 4), .inl (.ld false 1 (.s 3))⟩, (some []), [], 1, false⟩,
    ⟨⟨none, (some 5), .inr (.fn 63 [(.s 4), (.c (.int .i64 1)), (.c (.int .i64 1000))])⟩, (some []), [], 3, false⟩,
    ⟨⟨none, (some 6), .inl (.mv (.s 5))⟩, (some []), [], 7, false⟩,
    ⟨⟨(some (6, true)), (some 7), .inl (.fa (.s 1) 2)⟩, (some []), [], 15, false⟩,
    ⟨⟨(some (6, true)), (some 8), .inl (.ld false 1 (.s 7))⟩, (some []), [], 31, false⟩,
    ⟨⟨(some (6, true)), (some 9), .inl (.bin .eql (.s 8) (.c (.int .i64 0)))⟩, (some []), [], 63, false⟩,
    ⟨⟨none, (some 10), .inl (.pick (.s 6) (.s 9) (.c (.bool false)))⟩, (some []), [], 127, false⟩,
    ⟨⟨none, (some 11), .inl (.fa (.s 1) 1)⟩, (some []), [], 0, false⟩,
    ⟨⟨none, (some 12), .inl (.ld false 1 (.s 11))⟩, (some []), [], 256, false⟩,
    ⟨⟨none, (some 13), .inl (.bld [(.bool false), (.int .i64 0), (.int .i64 0), (.slice none 0 0), (.int .i64 0), (.bool false), (.bool false)] [(0, 1, (.s 10)), (2, 1, (.s 12)), (5, 1, (.c (.bool true))), (6, 1, (.c (.bool true)))])⟩, (some []), [], 1023, false⟩,
    ⟨⟨none, none, .inl (.st 7 (.s 2) (.s 13))⟩, (some [.at 2]), [], 2047, false⟩])
  (.ret))
/-- gyttja/sheet.kinds$5 -/
def k107 : Cd :=
  .seq (.region [⟨none, (some 1), .inl (.box 23 3 (.s 0))⟩,
    ⟨none, (some 2), .inl (.alloc 82 [(.bool false), (.int .i64 0), (.int .i64 0), (.slice none 0 0), (.int .i64 0), (.bool false), (.bool false)])⟩])
  (.seq (.draw [⟨⟨none, (some 3), .inl (.fa (.s 1) 1)⟩, (some []), [], 0, false⟩,
    ⟨⟨none, (some 4), .inl (.ld false 1 (.s 3))⟩, (some []), [], 1, false⟩,
    ⟨⟨none, (some 5), .inr (.fn 104 [(.s 4)])⟩, (some []), [], 3, false⟩,
    ⟨⟨none, (some 6), .inl (.mv (.s 5))⟩, (some []), [], 7, false⟩,
    ⟨⟨(some (6, true)), (some 7), .inl (.fa (.s 1) 2)⟩, (some []), [], 15, false⟩,
    ⟨⟨(some (6, true)), (some 8), .inl (.ld false 1 (.s 7))⟩, (some []), [], 31, false⟩,
    ⟨⟨(some (6, true)), (some 9), .inl (.bin .eql (.s 8) (.c (.int .i64 0)))⟩, (some []), [], 63, false⟩,
    ⟨⟨none, (some 10), .inl (.pick (.s 6) (.s 9) (.c (.bool false)))⟩, (some []), [], 127, false⟩,
    ⟨⟨none, (some 11), .inl (.fa (.s 1) 1)⟩, (some []), [], 0, false⟩,
    ⟨⟨none, (some 12), .inl (.ld false 1 (.s 11))⟩, (some []), [], 256, false⟩,
    ⟨⟨none, (some 13), .inl (.bld [(.bool false), (.int .i64 0), (.int .i64 0), (.slice none 0 0), (.int .i64 0), (.bool false), (.bool false)] [(0, 1, (.s 10)), (4, 1, (.s 12))])⟩, (some []), [], 1023, false⟩,
    ⟨⟨none, none, .inl (.st 7 (.s 2) (.s 13))⟩, (some [.at 2]), [], 2047, false⟩])
  (.ret))
/-- gyttja/sheet.kinds$6 -/
def k108 : Cd :=
  .seq (.region [⟨none, (some 1), .inl (.box 23 3 (.s 0))⟩,
    ⟨none, (some 2), .inl (.alloc 82 [(.bool false), (.int .i64 0), (.int .i64 0), (.slice none 0 0), (.int .i64 0), (.bool false), (.bool false)])⟩])
  (.seq (.region [⟨none, (some 4), .inl (.fa (.s 1) 1)⟩,
    ⟨none, (some 5), .inl (.ld false 1 (.s 4))⟩,
    ⟨none, (some 6), .inl (.fa (.s 1) 2)⟩,
    ⟨none, (some 7), .inl (.ld false 1 (.s 6))⟩,
    ⟨none, (some 8), .inr (.fn 63 [(.s 5), (.c (.int .i64 0)), (.s 7)])⟩,
    ⟨none, (some 9), .inl (.mv (.s 8))⟩,
    ⟨(some (9, true)), (some 10), .inl (.fa (.s 1) 2)⟩,
    ⟨(some (9, true)), (some 11), .inl (.ld false 1 (.s 10))⟩,
    ⟨(some (9, true)), (some 12), .inr (.fn 63 [(.s 11), (.c (.int .i64 1)), (.c (.int .i64 1000))])⟩,
    ⟨none, (some 13), .inl (.pick (.s 9) (.s 12) (.c (.bool false)))⟩,
    ⟨none, (some 3), .inl (.mv (.s 13))⟩])
  (.seq (.region [⟨none, (some 14), .inl (.mv (.s 3))⟩,
    ⟨none, (some 15), .inl (.fa (.s 1) 1)⟩,
    ⟨none, (some 16), .inl (.ld false 1 (.s 15))⟩,
    ⟨none, (some 17), .inl (.fa (.s 1) 2)⟩,
    ⟨none, (some 18), .inl (.ld false 1 (.s 17))⟩,
    ⟨none, (some 19), .inl (.bld [(.bool false), (.int .i64 0), (.int .i64 0), (.slice none 0 0), (.int .i64 0), (.bool false), (.bool false)] [(0, 1, (.s 14)), (1, 1, (.s 16)), (2, 1, (.s 18)), (5, 1, (.c (.bool true))), (6, 1, (.c (.bool true)))])⟩,
    ⟨none, none, .inl (.st 7 (.s 2) (.s 19))⟩])
  (.ret)))
/-- strings.Lines -/
def k109 : Cd :=
  .seq (.region [⟨none, (some 1), .inl (.box 9 1 (.s 0))⟩,
    ⟨none, (some 2), .inl (.mv (.c .nilFunc))⟩])
  (.seq (.region [⟨none, (some 3), .inl (.mkf (.func 126) [] [(.s 1)])⟩,
    ⟨none, (some 2), .inl (.mv (.s 3))⟩])
  (.ret))
/-- gyttja/sheet.wordsOf -/
def k110 : Cd :=
  .seq (.region [⟨none, (some 2), .inl (.mv (.c (.slice none 0 0)))⟩])
  (.seq (.region [⟨none, (some 3), .inl (.mv (.s 0))⟩,
    ⟨none, (some 4), .inr (.fn 128 [(.s 3), (.f 129)])⟩,
    ⟨none, (some 2), .inl (.mv (.s 4))⟩])
  (.ret))
/-- strings.TrimSuffix -/
def k111 : Cd :=
  .seq (.region [⟨none, (some 4), .inl (.mv (.c (.string ⟨#[]⟩)))⟩])
  (.seq (.region [⟨none, (some 5), .inl (.mv (.s 0))⟩,
    ⟨none, (some 6), .inl (.mv (.s 1))⟩,
    ⟨none, (some 7), .inr (.fn 130 [(.s 5), (.s 6)])⟩,
    ⟨none, (some 4), .inl (.mv (.s 7))⟩])
  (.ret))
def k112l0 : Cd :=
  .seq (.region [⟨none, (some 10), .inl (.bin .lss (.s 9) (.c (.int .i64 7)))⟩])
  (.seq (.cond (.s 10) (.skip)
  (.exit 0))
  (.seq (.block 1 (.seq (.region [⟨none, (some 11), .inl (.mv (.s 9))⟩,
    ⟨none, (some 12), .inl (.ixa true 2 7 (.s 8) (.s 9))⟩,
    ⟨none, (some 6), .inl (.alloc 108 [(.string ⟨#[]⟩), (.int .i64 0)])⟩,
    ⟨none, (some 5), .inl (.mv (.s 11))⟩,
    ⟨none, none, .inl (.st 2 (.s 6) (.s 12))⟩])
  (.seq (.seq (.draw [⟨⟨none, (some 13), .inl (.fa (.s 6) 0)⟩, (some []), [], 0, false⟩,
    ⟨⟨none, (some 14), .inl (.ld false 1 (.s 13))⟩, (some []), [], 1, false⟩,
    ⟨⟨none, (some 15), .inl (.mv (.s 1))⟩, (some []), [], 0, false⟩,
    ⟨⟨none, (some 16), .inl (.ias 1 (.s 15) (.c (.int .i64 0)))⟩, (some []), [], 4, false⟩,
    ⟨⟨none, (some 17), .inl (.ld false 1 (.s 16))⟩, (some []), [], 12, false⟩,
    ⟨⟨none, (some 18), .inl (.bin .neq (.s 14) (.s 17))⟩, (some []), [], 31, false⟩,
    ⟨⟨none, (some 19), .inl (.mv (.s 18))⟩, (some []), [], 63, false⟩,
    ⟨⟨(some (19, false)), (some 20), .inl (.mv (.s 1))⟩, (some []), [], 127, false⟩,
    ⟨⟨(some (19, false)), (some 21), .inl (.len (.s 20))⟩, (some []), [], 255, false⟩,
    ⟨⟨(some (19, false)), (some 22), .inl (.fa (.s 6) 1)⟩, (some []), [], 127, false⟩,
    ⟨⟨(some (19, false)), (some 23), .inl (.ld false 1 (.s 22))⟩, (some []), [], 639, false⟩,
    ⟨⟨(some (19, false)), (some 24), .inl (.bin .add (.s 23) (.c (.int .i64 1)))⟩, (some []), [], 1663, false⟩,
    ⟨⟨(some (19, false)), (some 25), .inl (.bin .neq (.s 21) (.s 24))⟩, (some []), [], 4095, false⟩,
    ⟨⟨none, (some 26), .inl (.pick (.s 19) (.c (.bool true)) (.s 25))⟩, (some []), [], 8191, false⟩])
  (.cond (.s 26) (.exit 1)
  (.skip)))
  (.seq (.region [⟨none, (some 27), .inl (.mv (.s 5))⟩,
    ⟨none, (some 28), .inl (.mv (.s 0))⟩,
    ⟨none, (some 29), .inl (.mv (.s 1))⟩,
    ⟨none, (some 30), .inl (.ias 1 (.s 29) (.c (.int .i64 1)))⟩,
    ⟨none, (some 31), .inl (.ld false 1 (.s 30))⟩,
    ⟨none, (some 32), .inr (.fn 131 [(.s 28), (.s 31)])⟩,
    ⟨none, (some 33), .inl (.bld [(.int .i64 0), (.int .i64 0), (.int .i64 0)] [(0, 1, (.s 27)), (1, 1, (.s 32))])⟩,
    ⟨none, (some 7), .inl (.alloc 23 [(.int .i64 0), (.int .i64 0), (.int .i64 0)])⟩,
    ⟨none, none, .inl (.st 3 (.s 7) (.s 33))⟩])
  (.seq (.seq (.region [⟨none, (some 34), .inl (.fa (.s 6) 1)⟩,
    ⟨none, (some 35), .inl (.ld false 1 (.s 34))⟩,
    ⟨none, (some 36), .inl (.bin .eql (.s 35) (.c (.int .i64 2)))⟩])
  (.cond (.s 36) (.region [⟨none, (some 37), .inl (.mv (.s 0))⟩,
     ⟨none, (some 38), .inl (.mv (.s 1))⟩,
     ⟨none, (some 39), .inl (.ias 1 (.s 38) (.c (.int .i64 2)))⟩,
     ⟨none, (some 40), .inl (.ld false 1 (.s 39))⟩,
     ⟨none, (some 41), .inr (.fn 131 [(.s 37), (.s 40)])⟩,
     ⟨none, (some 42), .inl (.fa (.s 7) 2)⟩,
     ⟨none, none, .inl (.st 1 (.s 42) (.s 41))⟩])
  (.skip)))
  (.seq (.region [⟨none, (some 43), .inl (.ld true 3 (.s 7))⟩,
    ⟨none, none, .inl (.st 3 (.s 4) (.s 43))⟩])
  (.ret)))))))
  (.region [⟨none, (some 44), .inl (.bin .add (.s 9) (.c (.int .i64 1)))⟩,
    ⟨none, (some 9), .inl (.mv (.s 44))⟩])))
/-- gyttja/sheet.parseRow -/
def k112 : Cd :=
  .seq (.region [⟨none, (some 4), .inl (.alloc 23 [(.int .i64 0), (.int .i64 0), (.int .i64 0)])⟩])
  (.seq (.seq (.region [⟨none, (some 8), .inl (.ld true 14 (.g 0))⟩,
    ⟨none, (some 9), .inl (.mv (.c (.int .i64 0)))⟩])
  (.block 0 (.loop k112l0)))
  (.region [⟨none, (some 45), .inl (.mv (.s 0))⟩,
    ⟨none, (some 46), .inl (.mki 89 (.s 45))⟩,
    ⟨none, none, .inr (.pan (.s 46))⟩]))
/-- gyttja/sheet.parseHead -/
def k113 : Cd :=
  .seq (.region [⟨none, (some 4), .inl (.alloc 26 [(.int .i64 0), (.int .i64 0), (.int .i64 0), (.slice none 0 0)])⟩])
  (.seq (.seq (.region [⟨none, (some 5), .inl (.mv (.s 1))⟩,
    ⟨none, (some 6), .inl (.len (.s 5))⟩,
    ⟨none, (some 7), .inl (.bin .neq (.s 6) (.c (.int .i64 6)))⟩,
    ⟨none, (some 8), .inl (.mv (.s 7))⟩,
    ⟨(some (8, false)), (some 9), .inl (.mv (.s 1))⟩,
    ⟨(some (8, false)), (some 10), .inl (.ias 1 (.s 9) (.c (.int .i64 0)))⟩,
    ⟨(some (8, false)), (some 11), .inl (.ld false 1 (.s 10))⟩,
    ⟨(some (8, false)), (some 12), .inl (.bin .neq (.s 11) (.c (.string ⟨#[115, 104, 101, 101, 116]⟩)))⟩,
    ⟨none, (some 13), .inl (.pick (.s 8) (.c (.bool true)) (.s 12))⟩,
    ⟨none, (some 14), .inl (.mv (.s 13))⟩,
    ⟨(some (14, false)), (some 15), .inl (.mv (.s 1))⟩,
    ⟨(some (14, false)), (some 16), .inl (.ias 1 (.s 15) (.c (.int .i64 2)))⟩,
    ⟨(some (14, false)), (some 17), .inl (.ld false 1 (.s 16))⟩,
    ⟨(some (14, false)), (some 18), .inl (.bin .neq (.s 17) (.c (.string ⟨#[114, 101, 97, 100, 101, 114]⟩)))⟩,
    ⟨none, (some 19), .inl (.pick (.s 14) (.c (.bool true)) (.s 18))⟩,
    ⟨none, (some 20), .inl (.mv (.s 19))⟩,
    ⟨(some (20, false)), (some 21), .inl (.mv (.s 1))⟩,
    ⟨(some (20, false)), (some 22), .inl (.ias 1 (.s 21) (.c (.int .i64 4)))⟩,
    ⟨(some (20, false)), (some 23), .inl (.ld false 1 (.s 22))⟩,
    ⟨(some (20, false)), (some 24), .inl (.bin .neq (.s 23) (.c (.string ⟨#[99, 111, 114, 101]⟩)))⟩,
    ⟨none, (some 25), .inl (.pick (.s 20) (.c (.bool true)) (.s 24))⟩])
  (.cond (.s 25) (.region [⟨none, (some 26), .inl (.mv (.s 0))⟩,
     ⟨none, (some 27), .inl (.mki 89 (.s 26))⟩,
     ⟨none, none, .inr (.pan (.s 27))⟩])
  (.skip)))
  (.seq (.draw [⟨⟨none, (some 28), .inl (.mv (.s 0))⟩, (some []), [], 0, false⟩,
    ⟨⟨none, (some 29), .inl (.mv (.s 1))⟩, (some []), [], 0, false⟩,
    ⟨⟨none, (some 30), .inl (.ias 1 (.s 29) (.c (.int .i64 1)))⟩, (some []), [], 2, false⟩,
    ⟨⟨none, (some 31), .inl (.ld false 1 (.s 30))⟩, (some []), [], 6, false⟩,
    ⟨⟨none, (some 32), .inr (.fn 131 [(.s 28), (.s 31)])⟩, (some []), [], 15, false⟩,
    ⟨⟨none, (some 33), .inl (.mv (.s 0))⟩, (some []), [], 0, false⟩,
    ⟨⟨none, (some 34), .inl (.mv (.s 1))⟩, (some []), [], 0, false⟩,
    ⟨⟨none, (some 35), .inl (.ias 1 (.s 34) (.c (.int .i64 3)))⟩, (some []), [], 64, false⟩,
    ⟨⟨none, (some 36), .inl (.ld false 1 (.s 35))⟩, (some []), [], 192, false⟩,
    ⟨⟨none, (some 37), .inr (.fn 131 [(.s 33), (.s 36)])⟩, (some []), [], 511, false⟩,
    ⟨⟨none, (some 38), .inl (.mv (.s 0))⟩, (some []), [], 0, false⟩,
    ⟨⟨none, (some 39), .inl (.mv (.s 1))⟩, (some []), [], 0, false⟩,
    ⟨⟨none, (some 40), .inl (.ias 1 (.s 39) (.c (.int .i64 5)))⟩, (some []), [], 2048, false⟩,
    ⟨⟨none, (some 41), .inl (.ld false 1 (.s 40))⟩, (some []), [], 6144, false⟩,
    ⟨⟨none, (some 42), .inr (.fn 131 [(.s 38), (.s 41)])⟩, (some []), [], 16383, false⟩,
    ⟨⟨none, (some 43), .inl (.bld [(.int .i64 0), (.int .i64 0), (.int .i64 0), (.slice none 0 0)] [(0, 1, (.s 32)), (1, 1, (.s 37)), (2, 1, (.s 42))])⟩, (some []), [], 32767, false⟩,
    ⟨⟨none, none, .inl (.st 4 (.s 4) (.s 43))⟩, (some [.at 4]), [], 65535, false⟩])
  (.ret)))
def k114l0 : Cd :=
  .seq (.seq (.region [⟨none, (some 26), .inl (.mv (.s 6))⟩,
    ⟨none, (some 27), .inl (.mv (.s 0))⟩,
    ⟨none, (some 28), .inl (.lens (.s 27))⟩,
    ⟨none, (some 29), .inl (.bin .lss (.s 26) (.s 28))⟩])
  (.cond (.s 29) (.skip)
  (.exit 0)))
  (.seq (.block 1 (.seq (.seq (.region [⟨none, (some 32), .inl (.mv (.s 0))⟩,
    ⟨none, (some 33), .inl (.mv (.s 6))⟩,
    ⟨none, (some 34), .inl (.ixs (.s 32) (.s 33))⟩,
    ⟨none, (some 35), .inl (.bin .lss (.s 34) (.c (.int .u8 48)))⟩,
    ⟨none, (some 36), .inl (.mv (.s 35))⟩,
    ⟨(some (36, false)), (some 37), .inl (.mv (.s 0))⟩,
    ⟨(some (36, false)), (some 38), .inl (.mv (.s 6))⟩,
    ⟨(some (36, false)), (some 39), .inl (.ixs (.s 37) (.s 38))⟩,
    ⟨(some (36, false)), (some 40), .inl (.bin .gtr (.s 39) (.c (.int .u8 57)))⟩,
    ⟨none, (some 41), .inl (.pick (.s 36) (.c (.bool true)) (.s 40))⟩])
  (.cond (.s 41) (.seq (.region [⟨none, (some 4), .inl (.mv (.c (.int .i64 (-1))))⟩])
   (.ret))
  (.skip)))
  (.region [⟨none, (some 42), .inl (.mv (.s 5))⟩,
    ⟨none, (some 43), .inl (.bin .mul (.s 42) (.c (.int .i64 10)))⟩,
    ⟨none, (some 44), .inl (.mv (.s 0))⟩,
    ⟨none, (some 45), .inl (.mv (.s 6))⟩,
    ⟨none, (some 46), .inl (.ixs (.s 44) (.s 45))⟩,
    ⟨none, (some 47), .inl (.bin .sub (.s 46) (.c (.int .u8 48)))⟩,
    ⟨none, (some 48), .inl (.cvi .i64 (.s 47))⟩,
    ⟨none, (some 49), .inl (.bin .add (.s 43) (.s 48))⟩,
    ⟨none, (some 5), .inl (.mv (.s 49))⟩])))
  (.region [⟨none, (some 30), .inl (.mv (.s 6))⟩,
    ⟨none, (some 31), .inl (.bin .add (.s 30) (.c (.int .i64 1)))⟩,
    ⟨none, (some 6), .inl (.mv (.s 31))⟩]))
/-- gyttja/gyttjaref01.Number -/
def k114 : Cd :=
  .seq (.region [⟨none, (some 4), .inl (.mv (.c (.int .i64 0)))⟩])
  (.seq (.seq (.region [⟨none, (some 7), .inl (.mv (.s 0))⟩,
    ⟨none, (some 8), .inl (.lens (.s 7))⟩,
    ⟨none, (some 9), .inl (.bin .eql (.s 8) (.c (.int .i64 0)))⟩,
    ⟨none, (some 10), .inl (.mv (.s 9))⟩,
    ⟨(some (10, false)), (some 11), .inl (.mv (.s 0))⟩,
    ⟨(some (10, false)), (some 12), .inl (.lens (.s 11))⟩,
    ⟨(some (10, false)), (some 13), .inl (.mv (.s 1))⟩,
    ⟨(some (10, false)), (some 14), .inl (.bin .gtr (.s 12) (.s 13))⟩,
    ⟨none, (some 15), .inl (.pick (.s 10) (.c (.bool true)) (.s 14))⟩,
    ⟨none, (some 16), .inl (.mv (.s 15))⟩,
    ⟨(some (16, false)), (some 17), .inl (.mv (.s 0))⟩,
    ⟨(some (16, false)), (some 18), .inl (.lens (.s 17))⟩,
    ⟨(some (16, false)), (some 19), .inl (.bin .gtr (.s 18) (.c (.int .i64 1)))⟩,
    ⟨(some (16, false)), (some 20), .inl (.mv (.s 19))⟩,
    ⟨(some (20, true)), (some 21), .inl (.mv (.s 0))⟩,
    ⟨(some (20, true)), (some 22), .inl (.ixs (.s 21) (.c (.int .i64 0)))⟩,
    ⟨(some (20, true)), (some 23), .inl (.bin .eql (.s 22) (.c (.int .u8 48)))⟩,
    ⟨(some (16, false)), (some 24), .inl (.pick (.s 20) (.s 23) (.c (.bool false)))⟩,
    ⟨none, (some 25), .inl (.pick (.s 16) (.c (.bool true)) (.s 24))⟩])
  (.cond (.s 25) (.seq (.region [⟨none, (some 4), .inl (.mv (.c (.int .i64 (-1))))⟩])
   (.ret))
  (.skip)))
  (.seq (.region [⟨none, (some 5), .inl (.mv (.c (.int .i64 0)))⟩])
  (.seq (.seq (.region [⟨none, (some 6), .inl (.mv (.c (.int .i64 0)))⟩])
  (.block 0 (.loop k114l0)))
  (.seq (.region [⟨none, (some 50), .inl (.mv (.s 5))⟩,
    ⟨none, (some 4), .inl (.mv (.s 50))⟩])
  (.ret)))))
/-- slices.ContainsFunc[[]gyttja/sheet.nature,gyttja/sheet.nature] -/
def k117 : Cd :=
  .seq (.region [⟨none, (some 4), .inl (.mv (.c (.bool false)))⟩])
  (.seq (.region [⟨none, (some 5), .inl (.mv (.s 0))⟩,
    ⟨none, (some 6), .inl (.mv (.s 1))⟩,
    ⟨none, (some 7), .inr (.fn 134 [(.s 5), (.s 6)])⟩,
    ⟨none, (some 8), .inl (.bin .geq (.s 7) (.c (.int .i64 0)))⟩,
    ⟨none, (some 4), .inl (.mv (.s 8))⟩])
  (.ret))
/-- gyttja/sheet.layered$1 -/
def k118 : Cd :=
  .seq (.region [⟨none, (some 1), .inl (.box 82 7 (.s 0))⟩,
    ⟨none, (some 2), .inl (.mv (.c (.bool false)))⟩])
  (.seq (.region [⟨none, (some 3), .inl (.fa (.s 1) 5)⟩,
    ⟨none, (some 4), .inl (.ld false 1 (.s 3))⟩,
    ⟨none, (some 2), .inl (.mv (.s 4))⟩])
  (.ret))
def k119l0 : Cd :=
  .seq (.region [⟨none, (some 9), .inl (.bin .lss (.s 8) (.s 7))⟩])
  (.seq (.cond (.s 9) (.skip)
  (.exit 0))
  (.seq (.block 1 (.seq (.region [⟨none, (some 10), .inl (.mv (.s 8))⟩,
    ⟨none, (some 5), .inl (.mv (.s 10))⟩])
  (.seq (.draw [⟨⟨none, (some 11), .inl (.ld true 3 (.s 3))⟩, (some []), [], 0, false⟩,
    ⟨⟨none, (some 12), .inl (.mv (.s 0))⟩, (some []), [], 0, false⟩,
    ⟨⟨none, (some 13), .inl (.mv (.s 5))⟩, (some []), [], 0, false⟩,
    ⟨⟨none, (some 14), .inl (.ias 3 (.s 12) (.s 13))⟩, (some []), [], 6, false⟩,
    ⟨⟨none, (some 15), .inl (.ld true 3 (.s 14))⟩, (some []), [], 14, false⟩,
    ⟨⟨none, (some 16), .inl (.eq false (.cells [.int, .int, .int]) (.s 11) (.s 15))⟩, (some []), [], 31, false⟩])
  (.cond (.s 16) (.seq (.region [⟨none, (some 17), .inl (.mv (.s 5))⟩,
     ⟨none, (some 4), .inl (.mv (.s 17))⟩])
   (.ret))
  (.skip)))))
  (.region [⟨none, (some 18), .inl (.bin .add (.s 8) (.c (.int .i64 1)))⟩,
    ⟨none, (some 8), .inl (.mv (.s 18))⟩])))
/-- slices.Index[[]gyttja/api.Row,gyttja/api.Row] -/
def k119 : Cd :=
  .seq (.region [⟨none, (some 3), .inl (.box 23 3 (.s 1))⟩,
    ⟨none, (some 4), .inl (.mv (.c (.int .i64 0)))⟩])
  (.seq (.seq (.region [⟨none, (some 6), .inl (.mv (.s 0))⟩,
    ⟨none, (some 7), .inl (.len (.s 6))⟩,
    ⟨none, (some 8), .inl (.mv (.c (.int .i64 0)))⟩])
  (.block 0 (.loop k119l0)))
  (.seq (.region [⟨none, (some 4), .inl (.mv (.c (.int .i64 (-1))))⟩])
  (.ret)))
def k121l0 : Cd :=
  .seq (.region [⟨none, (some 9), .inl (.bin .lss (.s 8) (.s 7))⟩])
  (.seq (.cond (.s 9) (.skip)
  (.exit 0))
  (.seq (.block 1 (.seq (.region [⟨none, (some 10), .inl (.mv (.s 8))⟩,
    ⟨none, (some 5), .inl (.mv (.s 10))⟩])
  (.seq (.region [⟨none, (some 11), .inl (.mv (.s 1))⟩,
    ⟨none, (some 12), .inl (.mv (.s 0))⟩,
    ⟨none, (some 13), .inl (.mv (.s 5))⟩,
    ⟨none, (some 14), .inl (.ias 1 (.s 12) (.s 13))⟩,
    ⟨none, (some 15), .inl (.ld false 1 (.s 14))⟩,
    ⟨none, (some 16), .inr (.val (.s 11) [(.s 15)])⟩])
  (.cond (.s 16) (.seq (.region [⟨none, (some 17), .inl (.mv (.s 5))⟩,
     ⟨none, (some 4), .inl (.mv (.s 17))⟩])
   (.ret))
  (.skip)))))
  (.region [⟨none, (some 18), .inl (.bin .add (.s 8) (.c (.int .i64 1)))⟩,
    ⟨none, (some 8), .inl (.mv (.s 18))⟩])))
/-- slices.IndexFunc[[]int,int] -/
def k121 : Cd :=
  .seq (.region [⟨none, (some 4), .inl (.mv (.c (.int .i64 0)))⟩])
  (.seq (.seq (.region [⟨none, (some 6), .inl (.mv (.s 0))⟩,
    ⟨none, (some 7), .inl (.len (.s 6))⟩,
    ⟨none, (some 8), .inl (.mv (.c (.int .i64 0)))⟩])
  (.block 0 (.loop k121l0)))
  (.seq (.region [⟨none, (some 4), .inl (.mv (.c (.int .i64 (-1))))⟩])
  (.ret)))
/-- gyttja/sheet.hidden$1 -/
def k122 : Cd :=
  .seq (.region [⟨none, (some 2), .inl (.mv (.c (.bool false)))⟩])
  (.seq (.region [⟨none, (some 3), .inl (.mv (.s 0))⟩,
    ⟨none, (some 4), .inl (.bin .neq (.s 3) (.c (.int .i64 0)))⟩,
    ⟨none, (some 2), .inl (.mv (.s 4))⟩])
  (.ret))
def k123l0 : Cd :=
  .seq (.region [⟨none, (some 14), .inl (.bin .lss (.s 13) (.s 12))⟩])
  (.seq (.cond (.s 14) (.skip)
  (.exit 0))
  (.seq (.block 1 (.seq (.region [⟨none, (some 15), .inl (.mv (.s 13))⟩,
    ⟨none, (some 5), .inl (.mv (.s 15))⟩])
  (.seq (.draw [⟨⟨none, (some 16), .inl (.mv (.s 0))⟩, (some []), [], 0, false⟩,
    ⟨⟨none, (some 17), .inl (.mv (.s 5))⟩, (some []), [], 0, false⟩,
    ⟨⟨none, (some 18), .inl (.ias 1 (.s 16) (.s 17))⟩, (some []), [], 3, false⟩,
    ⟨⟨none, (some 19), .inl (.ld false 1 (.s 18))⟩, (some []), [], 7, false⟩,
    ⟨⟨none, (some 20), .inl (.mv (.s 1))⟩, (some []), [], 0, false⟩,
    ⟨⟨none, (some 21), .inl (.mv (.s 5))⟩, (some []), [], 0, false⟩,
    ⟨⟨none, (some 22), .inl (.ias 1 (.s 20) (.s 21))⟩, (some []), [], 48, false⟩,
    ⟨⟨none, (some 23), .inl (.ld false 1 (.s 22))⟩, (some []), [], 112, false⟩,
    ⟨⟨none, (some 24), .inl (.bin .neq (.s 19) (.s 23))⟩, (some []), [], 255, false⟩])
  (.cond (.s 24) (.seq (.region [⟨none, (some 4), .inl (.mv (.c (.bool false)))⟩])
   (.ret))
  (.skip)))))
  (.region [⟨none, (some 25), .inl (.bin .add (.s 13) (.c (.int .i64 1)))⟩,
    ⟨none, (some 13), .inl (.mv (.s 25))⟩])))
/-- slices.Equal[[]int,int] -/
def k123 : Cd :=
  .seq (.region [⟨none, (some 4), .inl (.mv (.c (.bool false)))⟩])
  (.seq (.seq (.region [⟨none, (some 6), .inl (.mv (.s 0))⟩,
    ⟨none, (some 7), .inl (.len (.s 6))⟩,
    ⟨none, (some 8), .inl (.mv (.s 1))⟩,
    ⟨none, (some 9), .inl (.len (.s 8))⟩,
    ⟨none, (some 10), .inl (.bin .neq (.s 7) (.s 9))⟩])
  (.cond (.s 10) (.seq (.region [⟨none, (some 4), .inl (.mv (.c (.bool false)))⟩])
   (.ret))
  (.skip)))
  (.seq (.seq (.region [⟨none, (some 11), .inl (.mv (.s 0))⟩,
    ⟨none, (some 12), .inl (.len (.s 11))⟩,
    ⟨none, (some 13), .inl (.mv (.c (.int .i64 0)))⟩])
  (.block 0 (.loop k123l0)))
  (.seq (.region [⟨none, (some 4), .inl (.mv (.c (.bool true)))⟩])
  (.ret))))
def k126l0 : Cd :=
  .seq (.seq (.region [⟨none, (some 5), .inl (.ld false 1 (.s 1))⟩,
    ⟨none, (some 6), .inl (.lens (.s 5))⟩,
    ⟨none, (some 7), .inl (.bin .gtr (.s 6) (.c (.int .i64 0)))⟩])
  (.cond (.s 7) (.skip)
  (.exit 0)))
  (.block 1 (.seq (.region [⟨none, (some 3), .inl (.mv (.c (.string ⟨#[]⟩)))⟩])
  (.seq (.seq (.region [⟨none, (some 8), .inl (.ld false 1 (.s 1))⟩,
    ⟨none, (some 9), .inr (.fn 127 [(.s 8), (.c (.int .u8 10))])⟩,
    ⟨none, (some 4), .inl (.mv (.s 9))⟩])
  (.seq (.region [⟨none, (some 10), .inl (.mv (.s 4))⟩,
    ⟨none, (some 11), .inl (.bin .geq (.s 10) (.c (.int .i64 0)))⟩])
  (.cond (.s 11) (.draw [⟨⟨none, (some 12), .inl (.ld false 1 (.s 1))⟩, (some []), [], 0, false⟩,
     ⟨⟨none, (some 13), .inl (.mv (.s 4))⟩, (some []), [], 0, false⟩,
     ⟨⟨none, (some 14), .inl (.bin .add (.s 13) (.c (.int .i64 1)))⟩, (some []), [], 2, false⟩,
     ⟨⟨none, (some 15), .inl (.sls (.s 12) none (some (.s 14)))⟩, (some []), [], 7, false⟩,
     ⟨⟨none, (some 16), .inl (.ld false 1 (.s 1))⟩, (some []), [], 0, false⟩,
     ⟨⟨none, (some 17), .inl (.mv (.s 4))⟩, (some []), [], 0, false⟩,
     ⟨⟨none, (some 18), .inl (.bin .add (.s 17) (.c (.int .i64 1)))⟩, (some []), [], 32, false⟩,
     ⟨⟨none, (some 19), .inl (.sls (.s 16) (some (.s 18)) none)⟩, (some []), [], 112, false⟩,
     ⟨⟨none, (some 3), .inl (.mv (.s 15))⟩, (some []), [], 15, false⟩,
     ⟨⟨none, none, .inl (.st 1 (.s 1) (.s 19))⟩, (some [.at 1]), [], 511, false⟩])
  (.region [⟨none, (some 20), .inl (.ld false 1 (.s 1))⟩,
     ⟨none, (some 3), .inl (.mv (.s 20))⟩,
     ⟨none, none, .inl (.st 1 (.s 1) (.c (.string ⟨#[]⟩)))⟩]))))
  (.seq (.region [⟨none, (some 21), .inl (.mv (.s 0))⟩,
    ⟨none, (some 22), .inl (.mv (.s 3))⟩,
    ⟨none, (some 23), .inr (.val (.s 21) [(.s 22)])⟩,
    ⟨none, (some 24), .inl (.not (.s 23))⟩])
  (.cond (.s 24) (.ret)
  (.skip))))))
/-- strings.Lines$1 -/
def k126 : Cd :=
  .block 0 (.loop k126l0)
/-- strings.IndexByte -/
def k127 : Cd :=
  .seq (.region [⟨none, (some 4), .inl (.mv (.c (.int .i64 0)))⟩])
  (.seq (.region [⟨none, (some 5), .inl (.mv (.s 0))⟩,
    ⟨none, (some 6), .inl (.mv (.s 1))⟩,
    ⟨none, (some 7), .inr (.fn 136 [(.s 5), (.s 6)])⟩,
    ⟨none, (some 4), .inl (.mv (.s 7))⟩])
  (.ret))
def k128l0 : Cd :=
  .seq (.region [⟨none, (some 15), .inl (.nxt (.s 14))⟩,
    ⟨none, (some 16), .inl (.ex (.s 15) 0)⟩])
  (.seq (.cond (.s 16) (.skip)
  (.exit 0))
  (.block 1 (.seq (.region [⟨none, (some 17), .inl (.ex (.s 15) 1)⟩,
    ⟨none, (some 18), .inl (.ex (.s 15) 2)⟩,
    ⟨none, (some 7), .inl (.mv (.s 17))⟩,
    ⟨none, (some 8), .inl (.mv (.s 18))⟩])
  (.seq (.region [⟨none, (some 19), .inl (.mv (.s 1))⟩,
    ⟨none, (some 20), .inl (.mv (.s 8))⟩,
    ⟨none, (some 21), .inr (.val (.s 19) [(.s 20)])⟩])
  (.cond (.s 21) (.seq (.region [⟨none, (some 22), .inl (.mv (.s 6))⟩,
     ⟨none, (some 23), .inl (.bin .geq (.s 22) (.c (.int .i64 0)))⟩])
   (.cond (.s 23) (.seq (.region [⟨none, (some 24), .inl (.mv (.s 5))⟩,
      ⟨none, (some 25), .inl (.mv (.s 6))⟩,
      ⟨none, (some 26), .inl (.mv (.s 7))⟩,
      ⟨none, (some 27), .inl (.bld [(.int .i64 0), (.int .i64 0)] [(0, 1, (.s 25)), (1, 1, (.s 26))])⟩,
      ⟨none, (some 28), .inl (.bs 158 2 1 [(.int .i64 0), (.int .i64 0)] [(0, (.s 27))])⟩,
      ⟨none, (some 29), .inl (.app 158 2 16 (.s 24) (.s 28))⟩,
      ⟨none, (some 5), .inl (.mv (.s 29))⟩])
    (.region [⟨none, (some 30), .inl (.mv (.s 6))⟩,
      ⟨none, (some 31), .inl (.cpl (.s 30))⟩,
      ⟨none, (some 6), .inl (.mv (.s 31))⟩]))
   (.skip)))
  (.seq (.region [⟨none, (some 32), .inl (.mv (.s 6))⟩,
     ⟨none, (some 33), .inl (.bin .lss (.s 32) (.c (.int .i64 0)))⟩])
   (.cond (.s 33) (.region [⟨none, (some 34), .inl (.mv (.s 7))⟩,
      ⟨none, (some 6), .inl (.mv (.s 34))⟩])
   (.skip))))))))
def k128l1 : Cd :=
  .seq (.region [⟨none, (some 50), .inl (.bin .lss (.s 49) (.s 48))⟩])
  (.seq (.cond (.s 50) (.skip)
  (.exit 2))
  (.seq (.block 3 (.seq (.region [⟨none, (some 51), .inl (.mv (.s 49))⟩,
    ⟨none, (some 52), .inl (.ias 2 (.s 47) (.s 49))⟩,
    ⟨none, (some 53), .inl (.ld true 2 (.s 52))⟩,
    ⟨none, (some 11), .inl (.alloc 158 [(.int .i64 0), (.int .i64 0)])⟩,
    ⟨none, (some 10), .inl (.mv (.s 51))⟩,
    ⟨none, none, .inl (.st 2 (.s 11) (.s 53))⟩])
  (.region [⟨none, (some 54), .inl (.mv (.s 9))⟩,
    ⟨none, (some 55), .inl (.mv (.s 10))⟩,
    ⟨none, (some 56), .inl (.mv (.s 0))⟩,
    ⟨none, (some 57), .inl (.fa (.s 11) 0)⟩,
    ⟨none, (some 58), .inl (.ld false 1 (.s 57))⟩,
    ⟨none, (some 59), .inl (.fa (.s 11) 1)⟩,
    ⟨none, (some 60), .inl (.ld false 1 (.s 59))⟩,
    ⟨none, (some 61), .inl (.sls (.s 56) (some (.s 58)) (some (.s 60)))⟩,
    ⟨none, (some 62), .inl (.ias 1 (.s 54) (.s 55))⟩,
    ⟨none, none, .inl (.st 1 (.s 62) (.s 61))⟩])))
  (.region [⟨none, (some 63), .inl (.bin .add (.s 49) (.c (.int .i64 1)))⟩,
    ⟨none, (some 49), .inl (.mv (.s 63))⟩])))
/-- strings.FieldsFunc -/
def k128 : Cd :=
  .seq (.region [⟨none, (some 4), .inl (.mv (.c (.slice none 0 0)))⟩])
  (.seq (.region [⟨none, (some 12), .inl (.mks 158 2 16 [(.int .i64 0), (.int .i64 0)] (.c (.int .i64 0)) (.c (.int .i64 32)))⟩,
    ⟨none, (some 5), .inl (.mv (.s 12))⟩])
  (.seq (.region [⟨none, (some 6), .inl (.mv (.c (.int .i64 (-1))))⟩])
  (.seq (.seq (.region [⟨none, (some 13), .inl (.mv (.s 0))⟩,
    ⟨none, (some 14), .inl (.rng (.s 13))⟩])
  (.block 0 (.loop k128l0)))
  (.seq (.seq (.region [⟨none, (some 35), .inl (.mv (.s 6))⟩,
    ⟨none, (some 36), .inl (.bin .geq (.s 35) (.c (.int .i64 0)))⟩])
  (.cond (.s 36) (.region [⟨none, (some 37), .inl (.mv (.s 5))⟩,
     ⟨none, (some 38), .inl (.mv (.s 6))⟩,
     ⟨none, (some 39), .inl (.mv (.s 0))⟩,
     ⟨none, (some 40), .inl (.lens (.s 39))⟩,
     ⟨none, (some 41), .inl (.bld [(.int .i64 0), (.int .i64 0)] [(0, 1, (.s 38)), (1, 1, (.s 40))])⟩,
     ⟨none, (some 42), .inl (.bs 158 2 1 [(.int .i64 0), (.int .i64 0)] [(0, (.s 41))])⟩,
     ⟨none, (some 43), .inl (.app 158 2 16 (.s 37) (.s 42))⟩,
     ⟨none, (some 5), .inl (.mv (.s 43))⟩])
  (.skip)))
  (.seq (.region [⟨none, (some 44), .inl (.mv (.s 5))⟩,
    ⟨none, (some 45), .inl (.len (.s 44))⟩,
    ⟨none, (some 46), .inl (.mks 9 1 16 [(.string ⟨#[]⟩)] (.s 45) (.s 45))⟩,
    ⟨none, (some 9), .inl (.mv (.s 46))⟩])
  (.seq (.seq (.region [⟨none, (some 47), .inl (.mv (.s 5))⟩,
    ⟨none, (some 48), .inl (.len (.s 47))⟩,
    ⟨none, (some 49), .inl (.mv (.c (.int .i64 0)))⟩])
  (.block 2 (.loop k128l1)))
  (.seq (.region [⟨none, (some 64), .inl (.mv (.s 9))⟩,
    ⟨none, (some 4), .inl (.mv (.s 64))⟩])
  (.ret))))))))
/-- gyttja/sheet.wordsOf$1 -/
def k129 : Cd :=
  .seq (.region [⟨none, (some 2), .inl (.mv (.c (.bool false)))⟩])
  (.seq (.region [⟨none, (some 3), .inl (.mv (.s 0))⟩,
    ⟨none, (some 4), .inl (.bin .eql (.s 3) (.c (.int .i32 32)))⟩,
    ⟨none, (some 2), .inl (.mv (.s 4))⟩])
  (.ret))
/-- internal/stringslite.TrimSuffix -/
def k130 : Cd :=
  .seq (.region [⟨none, (some 4), .inl (.mv (.c (.string ⟨#[]⟩)))⟩])
  (.seq (.seq (.region [⟨none, (some 5), .inl (.mv (.s 0))⟩,
    ⟨none, (some 6), .inl (.mv (.s 1))⟩,
    ⟨none, (some 7), .inr (.fn 137 [(.s 5), (.s 6)])⟩])
  (.cond (.s 7) (.seq (.region [⟨none, (some 8), .inl (.mv (.s 0))⟩,
     ⟨none, (some 9), .inl (.mv (.s 0))⟩,
     ⟨none, (some 10), .inl (.lens (.s 9))⟩,
     ⟨none, (some 11), .inl (.mv (.s 1))⟩,
     ⟨none, (some 12), .inl (.lens (.s 11))⟩,
     ⟨none, (some 13), .inl (.bin .sub (.s 10) (.s 12))⟩,
     ⟨none, (some 14), .inl (.sls (.s 8) none (some (.s 13)))⟩,
     ⟨none, (some 4), .inl (.mv (.s 14))⟩])
   (.ret))
  (.skip)))
  (.seq (.region [⟨none, (some 15), .inl (.mv (.s 0))⟩,
    ⟨none, (some 4), .inl (.mv (.s 15))⟩])
  (.ret)))
def k131l0 : Cd :=
  .seq (.region [⟨none, (some 26), .inl (.bin .lss (.s 25) (.s 24))⟩])
  (.seq (.cond (.s 26) (.skip)
  (.exit 0))
  (.seq (.block 1 (.seq (.region [⟨none, (some 27), .inl (.ias 1 (.s 23) (.s 25))⟩,
    ⟨none, (some 28), .inl (.ld false 1 (.s 27))⟩,
    ⟨none, (some 7), .inl (.mv (.s 28))⟩])
  (.seq (.seq (.region [⟨none, (some 29), .inl (.mv (.s 7))⟩,
    ⟨none, (some 30), .inl (.bin .lss (.s 29) (.c (.int .u8 48)))⟩,
    ⟨none, (some 31), .inl (.mv (.s 30))⟩,
    ⟨(some (31, false)), (some 32), .inl (.mv (.s 7))⟩,
    ⟨(some (31, false)), (some 33), .inl (.bin .gtr (.s 32) (.c (.int .u8 57)))⟩,
    ⟨none, (some 34), .inl (.pick (.s 31) (.c (.bool true)) (.s 33))⟩])
  (.cond (.s 34) (.region [⟨none, (some 35), .inl (.mv (.s 0))⟩,
     ⟨none, (some 36), .inl (.mki 89 (.s 35))⟩,
     ⟨none, none, .inr (.pan (.s 36))⟩])
  (.skip)))
  (.region [⟨none, (some 37), .inl (.mv (.s 5))⟩,
    ⟨none, (some 38), .inl (.bin .mul (.c (.int .i64 10)) (.s 37))⟩,
    ⟨none, (some 39), .inl (.mv (.s 7))⟩,
    ⟨none, (some 40), .inl (.bin .sub (.s 39) (.c (.int .u8 48)))⟩,
    ⟨none, (some 41), .inl (.cvi .i64 (.s 40))⟩,
    ⟨none, (some 42), .inl (.bin .add (.s 38) (.s 41))⟩,
    ⟨none, (some 5), .inl (.mv (.s 42))⟩]))))
  (.region [⟨none, (some 43), .inl (.bin .add (.s 25) (.c (.int .i64 1)))⟩,
    ⟨none, (some 25), .inl (.mv (.s 43))⟩])))
/-- gyttja/sheet.parseNumber -/
def k131 : Cd :=
  .seq (.region [⟨none, (some 4), .inl (.mv (.c (.int .i64 0)))⟩])
  (.seq (.seq (.region [⟨none, (some 8), .inl (.mv (.s 1))⟩,
    ⟨none, (some 9), .inl (.lens (.s 8))⟩,
    ⟨none, (some 10), .inl (.bin .gtr (.s 9) (.c (.int .i64 6)))⟩,
    ⟨none, (some 11), .inl (.mv (.s 10))⟩,
    ⟨(some (11, false)), (some 12), .inl (.mv (.s 1))⟩,
    ⟨(some (11, false)), (some 13), .inl (.ixs (.s 12) (.c (.int .i64 0)))⟩,
    ⟨(some (11, false)), (some 14), .inl (.bin .eql (.s 13) (.c (.int .u8 48)))⟩,
    ⟨(some (11, false)), (some 15), .inl (.mv (.s 14))⟩,
    ⟨(some (15, true)), (some 16), .inl (.mv (.s 1))⟩,
    ⟨(some (15, true)), (some 17), .inl (.bin .neq (.s 16) (.c (.string ⟨#[48]⟩)))⟩,
    ⟨(some (11, false)), (some 18), .inl (.pick (.s 15) (.s 17) (.c (.bool false)))⟩,
    ⟨none, (some 19), .inl (.pick (.s 11) (.c (.bool true)) (.s 18))⟩])
  (.cond (.s 19) (.region [⟨none, (some 20), .inl (.mv (.s 0))⟩,
     ⟨none, (some 21), .inl (.mki 89 (.s 20))⟩,
     ⟨none, none, .inr (.pan (.s 21))⟩])
  (.skip)))
  (.seq (.region [⟨none, (some 5), .inl (.mv (.c (.int .i64 0)))⟩])
  (.seq (.seq (.region [⟨none, (some 22), .inl (.mv (.s 1))⟩,
    ⟨none, (some 23), .inl (.s2b 5 (.s 22))⟩,
    ⟨none, (some 24), .inl (.len (.s 23))⟩,
    ⟨none, (some 25), .inl (.mv (.c (.int .i64 0)))⟩])
  (.block 0 (.loop k131l0)))
  (.seq (.region [⟨none, (some 44), .inl (.mv (.s 5))⟩,
    ⟨none, (some 4), .inl (.mv (.s 44))⟩])
  (.ret)))))
def k134l0 : Cd :=
  .seq (.region [⟨none, (some 9), .inl (.bin .lss (.s 8) (.s 7))⟩])
  (.seq (.cond (.s 9) (.skip)
  (.exit 0))
  (.seq (.block 1 (.seq (.region [⟨none, (some 10), .inl (.mv (.s 8))⟩,
    ⟨none, (some 5), .inl (.mv (.s 10))⟩])
  (.seq (.region [⟨none, (some 11), .inl (.mv (.s 1))⟩,
    ⟨none, (some 12), .inl (.mv (.s 0))⟩,
    ⟨none, (some 13), .inl (.mv (.s 5))⟩,
    ⟨none, (some 14), .inl (.ias 7 (.s 12) (.s 13))⟩,
    ⟨none, (some 15), .inl (.ld true 7 (.s 14))⟩,
    ⟨none, (some 16), .inr (.val (.s 11) [(.s 15)])⟩])
  (.cond (.s 16) (.seq (.region [⟨none, (some 17), .inl (.mv (.s 5))⟩,
     ⟨none, (some 4), .inl (.mv (.s 17))⟩])
   (.ret))
  (.skip)))))
  (.region [⟨none, (some 18), .inl (.bin .add (.s 8) (.c (.int .i64 1)))⟩,
    ⟨none, (some 8), .inl (.mv (.s 18))⟩])))
/-- slices.IndexFunc[[]gyttja/sheet.nature,gyttja/sheet.nature] -/
def k134 : Cd :=
  .seq (.region [⟨none, (some 4), .inl (.mv (.c (.int .i64 0)))⟩])
  (.seq (.seq (.region [⟨none, (some 6), .inl (.mv (.s 0))⟩,
    ⟨none, (some 7), .inl (.len (.s 6))⟩,
    ⟨none, (some 8), .inl (.mv (.c (.int .i64 0)))⟩])
  (.block 0 (.loop k134l0)))
  (.seq (.region [⟨none, (some 4), .inl (.mv (.c (.int .i64 (-1))))⟩])
  (.ret)))
/-- internal/stringslite.IndexByte -/
def k136 : Cd :=
  .seq (.region [⟨none, (some 4), .inl (.mv (.c (.int .i64 0)))⟩])
  (.seq (.region [⟨none, (some 5), .inl (.mv (.s 0))⟩,
    ⟨none, (some 6), .inl (.mv (.s 1))⟩,
    ⟨none, (some 7), .inr (.ixb 145 [(.s 5), (.s 6)])⟩,
    ⟨none, (some 4), .inl (.mv (.s 7))⟩])
  (.ret))
/-- internal/stringslite.HasSuffix -/
def k137 : Cd :=
  .seq (.region [⟨none, (some 4), .inl (.mv (.c (.bool false)))⟩])
  (.seq (.region [⟨none, (some 5), .inl (.mv (.s 0))⟩,
    ⟨none, (some 6), .inl (.lens (.s 5))⟩,
    ⟨none, (some 7), .inl (.mv (.s 1))⟩,
    ⟨none, (some 8), .inl (.lens (.s 7))⟩,
    ⟨none, (some 9), .inl (.bin .geq (.s 6) (.s 8))⟩,
    ⟨none, (some 10), .inl (.mv (.s 9))⟩,
    ⟨(some (10, true)), (some 11), .inl (.mv (.s 0))⟩,
    ⟨(some (10, true)), (some 12), .inl (.mv (.s 0))⟩,
    ⟨(some (10, true)), (some 13), .inl (.lens (.s 12))⟩,
    ⟨(some (10, true)), (some 14), .inl (.mv (.s 1))⟩,
    ⟨(some (10, true)), (some 15), .inl (.lens (.s 14))⟩,
    ⟨(some (10, true)), (some 16), .inl (.bin .sub (.s 13) (.s 15))⟩,
    ⟨(some (10, true)), (some 17), .inl (.sls (.s 11) (some (.s 16)) none)⟩,
    ⟨(some (10, true)), (some 18), .inl (.mv (.s 1))⟩,
    ⟨(some (10, true)), (some 19), .inl (.bin .eql (.s 17) (.s 18))⟩,
    ⟨none, (some 20), .inl (.pick (.s 10) (.s 19) (.c (.bool false)))⟩,
    ⟨none, (some 4), .inl (.mv (.s 20))⟩])
  (.ret))
end Go.Proofs.YthgnholbajpdgaaDoor
