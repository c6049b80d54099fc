/- The small code of the functions of this program, as its own reader reads them: part B. -/
import Derived.Test.YtomiigdpggeacaaDoorCodeA
namespace Go.Proofs.YtomiigdpggeacaaDoor
open Go Go.Em
set_option maxRecDepth 100000
/-- strings.FieldsFunc -/
def k95 : Cd :=
  .seq (.region [⟨none, (some 4), .inl (.mv (.c (.slice none 0 0)))⟩])
  (.seq (.region [⟨none, (some 12), .inl (.mks 148 2 16 [(.int .i64 0), (.int .i64 0)] (.c (.int .i64 0)) (.c (.int .i64 32)))⟩,
    ⟨none, (some 5), .inl (.mv (.s 12))⟩])
  (.seq (.region [⟨none, (some 6), .inl (.mv (.c (.int .i64 (-1))))⟩])
  (.seq (.seq (.region [⟨none, (some 13), .inl (.mv (.s 0))⟩,
    ⟨none, (some 14), .inl (.rng (.s 13))⟩])
  (.block 0 (.loop k95l0)))
  (.seq (.seq (.region [⟨none, (some 35), .inl (.mv (.s 6))⟩,
    ⟨none, (some 36), .inl (.bin .geq (.s 35) (.c (.int .i64 0)))⟩])
  (.cond (.s 36) (.region [⟨none, (some 37), .inl (.mv (.s 5))⟩,
     ⟨none, (some 38), .inl (.mv (.s 6))⟩,
     ⟨none, (some 39), .inl (.mv (.s 0))⟩,
     ⟨none, (some 40), .inl (.lens (.s 39))⟩,
     ⟨none, (some 41), .inl (.bld [(.int .i64 0), (.int .i64 0)] [(0, 1, (.s 38)), (1, 1, (.s 40))])⟩,
     ⟨none, (some 42), .inl (.bs 148 2 1 [(.int .i64 0), (.int .i64 0)] [(0, (.s 41))])⟩,
     ⟨none, (some 43), .inl (.app 148 2 16 (.s 37) (.s 42))⟩,
     ⟨none, (some 5), .inl (.mv (.s 43))⟩])
  (.skip)))
  (.seq (.region [⟨none, (some 44), .inl (.mv (.s 5))⟩,
    ⟨none, (some 45), .inl (.len (.s 44))⟩,
    ⟨none, (some 46), .inl (.mks 9 1 16 [(.string ⟨#[]⟩)] (.s 45) (.s 45))⟩,
    ⟨none, (some 9), .inl (.mv (.s 46))⟩])
  (.seq (.seq (.region [⟨none, (some 47), .inl (.mv (.s 5))⟩,
    ⟨none, (some 48), .inl (.len (.s 47))⟩,
    ⟨none, (some 49), .inl (.mv (.c (.int .i64 0)))⟩])
  (.block 2 (.loop k95l1)))
  (.seq (.region [⟨none, (some 64), .inl (.mv (.s 9))⟩,
    ⟨none, (some 4), .inl (.mv (.s 64))⟩])
  (.ret))))))))
/-- gyttja/sheet.wordsOf$1 -/
def k96 : Cd :=
  .seq (.region [⟨none, (some 2), .inl (.mv (.c (.bool false)))⟩])
  (.seq (.region [⟨none, (some 3), .inl (.mv (.s 0))⟩,
    ⟨none, (some 4), .inl (.bin .eql (.s 3) (.c (.int .i32 32)))⟩,
    ⟨none, (some 2), .inl (.mv (.s 4))⟩])
  (.ret))
/-- internal/stringslite.TrimSuffix -/
def k97 : Cd :=
  .seq (.region [⟨none, (some 4), .inl (.mv (.c (.string ⟨#[]⟩)))⟩])
  (.seq (.seq (.region [⟨none, (some 5), .inl (.mv (.s 0))⟩,
    ⟨none, (some 6), .inl (.mv (.s 1))⟩,
    ⟨none, (some 7), .inr (.fn 116 [(.s 5), (.s 6)])⟩])
  (.cond (.s 7) (.seq (.region [⟨none, (some 8), .inl (.mv (.s 0))⟩,
     ⟨none, (some 9), .inl (.mv (.s 0))⟩,
     ⟨none, (some 10), .inl (.lens (.s 9))⟩,
     ⟨none, (some 11), .inl (.mv (.s 1))⟩,
     ⟨none, (some 12), .inl (.lens (.s 11))⟩,
     ⟨none, (some 13), .inl (.bin .sub (.s 10) (.s 12))⟩,
     ⟨none, (some 14), .inl (.sls (.s 8) none (some (.s 13)))⟩,
     ⟨none, (some 4), .inl (.mv (.s 14))⟩])
   (.ret))
  (.skip)))
  (.seq (.region [⟨none, (some 15), .inl (.mv (.s 0))⟩,
    ⟨none, (some 4), .inl (.mv (.s 15))⟩])
  (.ret)))
def k98l0 : Cd :=
  .seq (.region [⟨none, (some 26), .inl (.bin .lss (.s 25) (.s 24))⟩])
  (.seq (.cond (.s 26) (.skip)
  (.exit 0))
  (.seq (.block 1 (.seq (.region [⟨none, (some 27), .inl (.ias 1 (.s 23) (.s 25))⟩,
    ⟨none, (some 28), .inl (.ld false 1 (.s 27))⟩,
    ⟨none, (some 7), .inl (.mv (.s 28))⟩])
  (.seq (.seq (.region [⟨none, (some 29), .inl (.mv (.s 7))⟩,
    ⟨none, (some 30), .inl (.bin .lss (.s 29) (.c (.int .u8 48)))⟩,
    ⟨none, (some 31), .inl (.mv (.s 30))⟩,
    ⟨(some (31, false)), (some 32), .inl (.mv (.s 7))⟩,
    ⟨(some (31, false)), (some 33), .inl (.bin .gtr (.s 32) (.c (.int .u8 57)))⟩,
    ⟨none, (some 34), .inl (.pick (.s 31) (.c (.bool true)) (.s 33))⟩])
  (.cond (.s 34) (.region [⟨none, (some 35), .inl (.mv (.s 0))⟩,
     ⟨none, (some 36), .inl (.mki 64 (.s 35))⟩,
     ⟨none, none, .inr (.pan (.s 36))⟩])
  (.skip)))
  (.region [⟨none, (some 37), .inl (.mv (.s 5))⟩,
    ⟨none, (some 38), .inl (.bin .mul (.c (.int .i64 10)) (.s 37))⟩,
    ⟨none, (some 39), .inl (.mv (.s 7))⟩,
    ⟨none, (some 40), .inl (.bin .sub (.s 39) (.c (.int .u8 48)))⟩,
    ⟨none, (some 41), .inl (.cvi .i64 (.s 40))⟩,
    ⟨none, (some 42), .inl (.bin .add (.s 38) (.s 41))⟩,
    ⟨none, (some 5), .inl (.mv (.s 42))⟩]))))
  (.region [⟨none, (some 43), .inl (.bin .add (.s 25) (.c (.int .i64 1)))⟩,
    ⟨none, (some 25), .inl (.mv (.s 43))⟩])))
/-- gyttja/sheet.parseNumber -/
def k98 : Cd :=
  .seq (.region [⟨none, (some 4), .inl (.mv (.c (.int .i64 0)))⟩])
  (.seq (.seq (.region [⟨none, (some 8), .inl (.mv (.s 1))⟩,
    ⟨none, (some 9), .inl (.lens (.s 8))⟩,
    ⟨none, (some 10), .inl (.bin .gtr (.s 9) (.c (.int .i64 6)))⟩,
    ⟨none, (some 11), .inl (.mv (.s 10))⟩,
    ⟨(some (11, false)), (some 12), .inl (.mv (.s 1))⟩,
    ⟨(some (11, false)), (some 13), .inl (.ixs (.s 12) (.c (.int .i64 0)))⟩,
    ⟨(some (11, false)), (some 14), .inl (.bin .eql (.s 13) (.c (.int .u8 48)))⟩,
    ⟨(some (11, false)), (some 15), .inl (.mv (.s 14))⟩,
    ⟨(some (15, true)), (some 16), .inl (.mv (.s 1))⟩,
    ⟨(some (15, true)), (some 17), .inl (.bin .neq (.s 16) (.c (.string ⟨#[48]⟩)))⟩,
    ⟨(some (11, false)), (some 18), .inl (.pick (.s 15) (.s 17) (.c (.bool false)))⟩,
    ⟨none, (some 19), .inl (.pick (.s 11) (.c (.bool true)) (.s 18))⟩])
  (.cond (.s 19) (.region [⟨none, (some 20), .inl (.mv (.s 0))⟩,
     ⟨none, (some 21), .inl (.mki 64 (.s 20))⟩,
     ⟨none, none, .inr (.pan (.s 21))⟩])
  (.skip)))
  (.seq (.region [⟨none, (some 5), .inl (.mv (.c (.int .i64 0)))⟩])
  (.seq (.seq (.region [⟨none, (some 22), .inl (.mv (.s 1))⟩,
    ⟨none, (some 23), .inl (.s2b 5 (.s 22))⟩,
    ⟨none, (some 24), .inl (.len (.s 23))⟩,
    ⟨none, (some 25), .inl (.mv (.c (.int .i64 0)))⟩])
  (.block 0 (.loop k98l0)))
  (.seq (.region [⟨none, (some 44), .inl (.mv (.s 5))⟩,
    ⟨none, (some 4), .inl (.mv (.s 44))⟩])
  (.ret)))))
/-- gyttja/gyttjaref01.CheckRow -/
def k99 : Cd :=
  .seq (.region [⟨none, (some 1), .inl (.box 71 3 (.s 0))⟩,
    ⟨none, (some 2), .inl (.mv (.c (.int .i64 0)))⟩])
  (.seq (.region [⟨none, (some 3), .inl (.mv (.c (.bool false)))⟩])
  (.seq (.seq (.region [⟨none, (some 4), .inl (.fa (.s 1) 0)⟩,
    ⟨none, (some 5), .inl (.ld false 1 (.s 4))⟩])
  (.block 0 (.seq (.region [⟨none, (some 7), .inl (.bin .eql (.s 5) (.c (.int .i64 1)))⟩,
    ⟨none, (some 6), .inl (.mv (.s 7))⟩])
  (.cond (.s 6) (.region [⟨none, (some 8), .inl (.fa (.s 1) 1)⟩,
     ⟨none, (some 9), .inl (.ld false 1 (.s 8))⟩,
     ⟨none, (some 10), .inr (.fn 76 [(.s 9), (.c (.int .i64 0)), (.c (.int .i64 63))])⟩,
     ⟨none, (some 11), .inl (.mv (.s 10))⟩,
     ⟨(some (11, true)), (some 12), .inl (.fa (.s 1) 2)⟩,
     ⟨(some (11, true)), (some 13), .inl (.ld false 1 (.s 12))⟩,
     ⟨(some (11, true)), (some 14), .inl (.bin .eql (.s 13) (.c (.int .i64 0)))⟩,
     ⟨none, (some 15), .inl (.pick (.s 11) (.s 14) (.c (.bool false)))⟩,
     ⟨none, (some 3), .inl (.mv (.s 15))⟩])
  (.seq (.seq (.region [⟨none, (some 17), .inl (.bin .eql (.s 5) (.c (.int .i64 2)))⟩,
     ⟨none, (some 16), .inl (.mv (.s 17))⟩])
   (.cond (.s 16) (.skip)
   (.region [⟨none, (some 18), .inl (.bin .eql (.s 5) (.c (.int .i64 5)))⟩,
      ⟨none, (some 16), .inl (.mv (.s 18))⟩])))
   (.cond (.s 16) (.region [⟨none, (some 19), .inl (.fa (.s 1) 1)⟩,
      ⟨none, (some 20), .inl (.ld false 1 (.s 19))⟩,
      ⟨none, (some 21), .inr (.fn 76 [(.s 20), (.c (.int .i64 1)), (.c (.int .i64 100000))])⟩,
      ⟨none, (some 22), .inl (.mv (.s 21))⟩,
      ⟨(some (22, true)), (some 23), .inl (.fa (.s 1) 2)⟩,
      ⟨(some (22, true)), (some 24), .inl (.ld false 1 (.s 23))⟩,
      ⟨(some (22, true)), (some 25), .inl (.bin .eql (.s 24) (.c (.int .i64 0)))⟩,
      ⟨none, (some 26), .inl (.pick (.s 22) (.s 25) (.c (.bool false)))⟩,
      ⟨none, (some 3), .inl (.mv (.s 26))⟩])
   (.seq (.region [⟨none, (some 28), .inl (.bin .eql (.s 5) (.c (.int .i64 3)))⟩,
      ⟨none, (some 27), .inl (.mv (.s 28))⟩])
    (.cond (.s 27) (.region [⟨none, (some 29), .inl (.fa (.s 1) 1)⟩,
       ⟨none, (some 30), .inl (.ld false 1 (.s 29))⟩,
       ⟨none, (some 31), .inr (.fn 76 [(.s 30), (.c (.int .i64 1)), (.c (.int .i64 100000))])⟩,
       ⟨none, (some 32), .inl (.mv (.s 31))⟩,
       ⟨(some (32, true)), (some 33), .inl (.fa (.s 1) 2)⟩,
       ⟨(some (32, true)), (some 34), .inl (.ld false 1 (.s 33))⟩,
       ⟨(some (32, true)), (some 35), .inr (.fn 76 [(.s 34), (.c (.int .i64 1)), (.c (.int .i64 100000))])⟩,
       ⟨none, (some 36), .inl (.pick (.s 32) (.s 35) (.c (.bool false)))⟩,
       ⟨none, (some 3), .inl (.mv (.s 36))⟩])
    (.seq (.region [⟨none, (some 38), .inl (.bin .eql (.s 5) (.c (.int .i64 4)))⟩,
       ⟨none, (some 37), .inl (.mv (.s 38))⟩])
     (.cond (.s 37) (.region [⟨none, (some 39), .inl (.fa (.s 1) 1)⟩,
        ⟨none, (some 40), .inl (.ld false 1 (.s 39))⟩,
        ⟨none, (some 41), .inr (.fn 76 [(.s 40), (.c (.int .i64 1)), (.c (.int .i64 1000))])⟩,
        ⟨none, (some 42), .inl (.mv (.s 41))⟩,
        ⟨(some (42, true)), (some 43), .inl (.fa (.s 1) 2)⟩,
        ⟨(some (42, true)), (some 44), .inl (.ld false 1 (.s 43))⟩,
        ⟨(some (42, true)), (some 45), .inl (.bin .eql (.s 44) (.c (.int .i64 0)))⟩,
        ⟨none, (some 46), .inl (.pick (.s 42) (.s 45) (.c (.bool false)))⟩,
        ⟨none, (some 3), .inl (.mv (.s 46))⟩])
     (.seq (.region [⟨none, (some 48), .inl (.bin .eql (.s 5) (.c (.int .i64 6)))⟩,
        ⟨none, (some 47), .inl (.mv (.s 48))⟩])
      (.cond (.s 47) (.region [⟨none, (some 49), .inl (.fa (.s 1) 1)⟩,
         ⟨none, (some 50), .inl (.ld false 1 (.s 49))⟩,
         ⟨none, (some 51), .inl (.fa (.s 1) 2)⟩,
         ⟨none, (some 52), .inl (.ld false 1 (.s 51))⟩,
         ⟨none, (some 53), .inr (.fn 76 [(.s 50), (.c (.int .i64 0)), (.s 52)])⟩,
         ⟨none, (some 54), .inl (.mv (.s 53))⟩,
         ⟨(some (54, true)), (some 55), .inl (.fa (.s 1) 2)⟩,
         ⟨(some (54, true)), (some 56), .inl (.ld false 1 (.s 55))⟩,
         ⟨(some (54, true)), (some 57), .inr (.fn 76 [(.s 56), (.c (.int .i64 1)), (.c (.int .i64 1000))])⟩,
         ⟨none, (some 58), .inl (.pick (.s 54) (.s 57) (.c (.bool false)))⟩,
         ⟨none, (some 3), .inl (.mv (.s 58))⟩])
      (.skip)))))))))))))
  (.seq (.seq (.region [⟨none, (some 59), .inl (.mv (.s 3))⟩])
  (.cond (.s 59) (.seq (.region [⟨none, (some 2), .inl (.mv (.c (.int .i64 0)))⟩])
   (.ret))
  (.skip)))
  (.seq (.region [⟨none, (some 2), .inl (.mv (.c (.int .i64 10)))⟩])
  (.ret)))))
/-- gyttja/gyttjaref01.least -/
def k100 : Cd :=
  .seq (.region [⟨none, (some 1), .inl (.box 71 3 (.s 0))⟩,
    ⟨none, (some 2), .inl (.mv (.c (.int .i64 0)))⟩])
  (.seq (.seq (.region [⟨none, (some 3), .inl (.fa (.s 1) 0)⟩,
    ⟨none, (some 4), .inl (.ld false 1 (.s 3))⟩])
  (.block 0 (.seq (.seq (.region [⟨none, (some 6), .inl (.bin .eql (.s 4) (.c (.int .i64 2)))⟩,
    ⟨none, (some 5), .inl (.mv (.s 6))⟩])
  (.cond (.s 5) (.skip)
  (.region [⟨none, (some 7), .inl (.bin .eql (.s 4) (.c (.int .i64 3)))⟩,
     ⟨none, (some 5), .inl (.mv (.s 7))⟩])))
  (.cond (.s 5) (.seq (.region [⟨none, (some 2), .inl (.mv (.c (.int .i64 1)))⟩])
   (.ret))
  (.seq (.region [⟨none, (some 9), .inl (.bin .eql (.s 4) (.c (.int .i64 6)))⟩,
     ⟨none, (some 8), .inl (.mv (.s 9))⟩])
   (.cond (.s 8) (.seq (.region [⟨none, (some 10), .inl (.fa (.s 1) 1)⟩,
      ⟨none, (some 11), .inl (.ld false 1 (.s 10))⟩,
      ⟨none, (some 2), .inl (.mv (.s 11))⟩])
    (.ret))
   (.skip)))))))
  (.seq (.region [⟨none, (some 2), .inl (.mv (.c (.int .i64 0)))⟩])
  (.ret)))
/-- gyttja/gyttjaref01.most -/
def k101 : Cd :=
  .seq (.region [⟨none, (some 1), .inl (.box 71 3 (.s 0))⟩,
    ⟨none, (some 2), .inl (.mv (.c (.int .i64 0)))⟩])
  (.seq (.seq (.region [⟨none, (some 3), .inl (.fa (.s 1) 0)⟩,
    ⟨none, (some 4), .inl (.ld false 1 (.s 3))⟩])
  (.block 0 (.seq (.region [⟨none, (some 6), .inl (.bin .eql (.s 4) (.c (.int .i64 2)))⟩,
    ⟨none, (some 5), .inl (.mv (.s 6))⟩])
  (.cond (.s 5) (.seq (.region [⟨none, (some 2), .inl (.mv (.c (.int .i64 1)))⟩])
   (.ret))
  (.seq (.region [⟨none, (some 8), .inl (.bin .eql (.s 4) (.c (.int .i64 3)))⟩,
     ⟨none, (some 7), .inl (.mv (.s 8))⟩])
   (.cond (.s 7) (.seq (.region [⟨none, (some 2), .inl (.mv (.c (.int .i64 2)))⟩])
    (.ret))
   (.seq (.region [⟨none, (some 10), .inl (.bin .eql (.s 4) (.c (.int .i64 4)))⟩,
      ⟨none, (some 9), .inl (.mv (.s 10))⟩])
    (.cond (.s 9) (.seq (.region [⟨none, (some 11), .inl (.fa (.s 1) 1)⟩,
       ⟨none, (some 12), .inl (.ld false 1 (.s 11))⟩,
       ⟨none, (some 2), .inl (.mv (.s 12))⟩])
     (.ret))
    (.seq (.region [⟨none, (some 14), .inl (.bin .eql (.s 4) (.c (.int .i64 6)))⟩,
       ⟨none, (some 13), .inl (.mv (.s 14))⟩])
     (.cond (.s 13) (.seq (.region [⟨none, (some 15), .inl (.fa (.s 1) 2)⟩,
        ⟨none, (some 16), .inl (.ld false 1 (.s 15))⟩,
        ⟨none, (some 2), .inl (.mv (.s 16))⟩])
      (.ret))
     (.skip)))))))))))
  (.seq (.region [⟨none, (some 2), .inl (.mv (.c (.int .i64 0)))⟩])
  (.ret)))
/-- gyttja/gyttjaref01.Place -/
def k104 : Cd :=
  .seq (.region [⟨none, (some 2), .inl (.mv (.c (.int .i64 0)))⟩,
    ⟨none, (some 3), .inl (.mv (.c (.int .i64 0)))⟩])
  (.seq (.seq (.region [⟨none, (some 4), .inl (.mv (.s 0))⟩,
    ⟨none, (some 5), .inr (.fn 76 [(.s 4), (.c (.int .i64 1)), (.c (.int .i64 2048))])⟩,
    ⟨none, (some 6), .inl (.not (.s 5))⟩])
  (.cond (.s 6) (.seq (.region [⟨none, (some 2), .inl (.mv (.c (.int .i64 (-1))))⟩,
     ⟨none, (some 3), .inl (.mv (.c (.int .i64 (-1))))⟩])
   (.ret))
  (.skip)))
  (.seq (.region [⟨none, (some 7), .inl (.mv (.s 0))⟩,
    ⟨none, (some 8), .inl (.bin .sub (.s 7) (.c (.int .i64 1)))⟩,
    ⟨none, (some 9), .inl (.bin .quo (.s 8) (.c (.int .i64 64)))⟩,
    ⟨none, (some 10), .inl (.mv (.s 0))⟩,
    ⟨none, (some 11), .inl (.bin .sub (.s 10) (.c (.int .i64 1)))⟩,
    ⟨none, (some 12), .inl (.bin .rem (.s 11) (.c (.int .i64 64)))⟩,
    ⟨none, (some 2), .inl (.mv (.s 9))⟩,
    ⟨none, (some 3), .inl (.mv (.s 12))⟩])
  (.ret)))
/-- gyttja/sheet.common -/
def k105 : Cd :=
  .seq (.region [⟨none, (some 2), .inl (.box 25 4 (.s 0))⟩,
    ⟨none, (some 3), .inl (.box 25 4 (.s 1))⟩,
    ⟨none, (some 4), .inl (.mv (.c (.slice none 0 0)))⟩])
  (.seq (.region [⟨none, (some 6), .inl (.ld true 4 (.s 3))⟩,
    ⟨none, (some 7), .inr (.fn 30 [(.s 6)])⟩,
    ⟨none, (some 5), .inl (.alloc 48 [(.slice none 0 0)])⟩,
    ⟨none, none, .inl (.st 1 (.s 5) (.s 7))⟩])
  (.seq (.region [⟨none, (some 8), .inl (.ld true 4 (.s 2))⟩,
    ⟨none, (some 9), .inr (.fn 30 [(.s 8)])⟩,
    ⟨none, (some 10), .inl (.mkf (.func 122) [] [(.s 5)])⟩,
    ⟨none, (some 11), .inr (.fn 121 [(.s 9), (.s 10)])⟩,
    ⟨none, (some 4), .inl (.mv (.s 11))⟩])
  (.ret)))
/-- gyttja/gyttjaref01.Mark -/
def k106 : Cd :=
  .seq (.region [⟨none, (some 4), .inl (.mv (.c (.int .i64 0)))⟩])
  (.seq (.seq (.region [⟨none, (some 5), .inl (.mv (.s 0))⟩,
    ⟨none, (some 6), .inr (.fn 76 [(.s 5), (.c (.int .i64 0)), (.c (.int .i64 31))])⟩,
    ⟨none, (some 7), .inl (.not (.s 6))⟩,
    ⟨none, (some 8), .inl (.mv (.s 7))⟩,
    ⟨(some (8, false)), (some 9), .inl (.mv (.s 1))⟩,
    ⟨(some (8, false)), (some 10), .inr (.fn 76 [(.s 9), (.c (.int .i64 0)), (.c (.int .i64 63))])⟩,
    ⟨(some (8, false)), (some 11), .inl (.not (.s 10))⟩,
    ⟨none, (some 12), .inl (.pick (.s 8) (.c (.bool true)) (.s 11))⟩])
  (.cond (.s 12) (.seq (.region [⟨none, (some 4), .inl (.mv (.c (.int .i64 (-1))))⟩])
   (.ret))
  (.skip)))
  (.seq (.region [⟨none, (some 13), .inl (.mv (.s 0))⟩,
    ⟨none, (some 14), .inl (.bin .mul (.c (.int .i64 64)) (.s 13))⟩,
    ⟨none, (some 15), .inl (.mv (.s 1))⟩,
    ⟨none, (some 16), .inl (.bin .add (.s 14) (.s 15))⟩,
    ⟨none, (some 17), .inl (.bin .add (.s 16) (.c (.int .i64 1)))⟩,
    ⟨none, (some 4), .inl (.mv (.s 17))⟩])
  (.ret)))
/-- gyttja/sheet.kinds$1 -/
def k107 : Cd :=
  .seq (.region [⟨none, (some 1), .inl (.box 71 3 (.s 0))⟩,
    ⟨none, (some 2), .inl (.alloc 104 [(.bool false), (.int .i64 0), (.int .i64 0), (.slice none 0 0), (.int .i64 0), (.bool false), (.bool false)])⟩])
  (.seq (.region [⟨none, (some 3), .inl (.fa (.s 1) 1)⟩,
    ⟨none, (some 4), .inl (.ld false 1 (.s 3))⟩,
    ⟨none, (some 5), .inr (.fn 69 [(.s 4), (.c (.int .i64 0)), (.c (.int .i64 63))])⟩,
    ⟨none, (some 6), .inl (.mv (.s 5))⟩,
    ⟨(some (6, true)), (some 7), .inl (.fa (.s 1) 2)⟩,
    ⟨(some (6, true)), (some 8), .inl (.ld false 1 (.s 7))⟩,
    ⟨(some (6, true)), (some 9), .inl (.bin .eql (.s 8) (.c (.int .i64 0)))⟩,
    ⟨none, (some 10), .inl (.pick (.s 6) (.s 9) (.c (.bool false)))⟩,
    ⟨none, (some 11), .inl (.bld [(.bool false), (.int .i64 0), (.int .i64 0), (.slice none 0 0), (.int .i64 0), (.bool false), (.bool false)] [(0, 1, (.s 10))])⟩,
    ⟨none, none, .inl (.st 7 (.s 2) (.s 11))⟩])
  (.ret))
/-- gyttja/sheet.kinds$2 -/
def k108 : Cd :=
  .seq (.region [⟨none, (some 1), .inl (.box 71 3 (.s 0))⟩,
    ⟨none, (some 2), .inl (.alloc 104 [(.bool false), (.int .i64 0), (.int .i64 0), (.slice none 0 0), (.int .i64 0), (.bool false), (.bool false)])⟩])
  (.seq (.draw [⟨⟨none, (some 3), .inl (.fa (.s 1) 1)⟩, (some []), [], 0, false⟩,
    ⟨⟨none, (some 4), .inl (.ld false 1 (.s 3))⟩, (some []), [.fr 13], 1, false⟩,
    ⟨⟨none, (some 5), .inr (.fn 109 [(.s 4)])⟩, (some []), [.fr 13], 3, false⟩,
    ⟨⟨none, (some 6), .inl (.mv (.s 5))⟩, (some []), [], 7, false⟩,
    ⟨⟨(some (6, true)), (some 7), .inl (.fa (.s 1) 2)⟩, (some []), [], 15, false⟩,
    ⟨⟨(some (6, true)), (some 8), .inl (.ld false 1 (.s 7))⟩, (some []), [.fr 13], 31, false⟩,
    ⟨⟨(some (6, true)), (some 9), .inl (.bin .eql (.s 8) (.c (.int .i64 0)))⟩, (some []), [], 63, false⟩,
    ⟨⟨none, (some 10), .inl (.pick (.s 6) (.s 9) (.c (.bool false)))⟩, (some []), [], 127, false⟩,
    ⟨⟨none, (some 11), .inl (.fa (.s 1) 1)⟩, (some []), [], 0, false⟩,
    ⟨⟨none, (some 12), .inl (.ld false 1 (.s 11))⟩, (some []), [], 256, false⟩,
    ⟨⟨none, (some 13), .inl (.bs 3 1 1 [(.int .i64 0)] [(0, (.s 12))])⟩, (some [.fr 13]), [], 768, false⟩,
    ⟨⟨none, (some 14), .inl (.bld [(.bool false), (.int .i64 0), (.int .i64 0), (.slice none 0 0), (.int .i64 0), (.bool false), (.bool false)] [(0, 1, (.s 10)), (1, 1, (.c (.int .i64 1))), (2, 1, (.c (.int .i64 1))), (3, 1, (.s 13))])⟩, (some []), [], 2047, false⟩,
    ⟨⟨none, none, .inl (.st 7 (.s 2) (.s 14))⟩, (some [.at 2]), [], 4095, false⟩])
  (.ret))
/-- gyttja/sheet.isThick -/
def k109 : Cd :=
  .seq (.region [⟨none, (some 2), .inl (.mv (.c (.bool false)))⟩])
  (.seq (.region [⟨none, (some 3), .inl (.mv (.s 0))⟩,
    ⟨none, (some 4), .inr (.fn 69 [(.s 3), (.c (.int .i64 1)), (.c (.int .i64 100000))])⟩,
    ⟨none, (some 2), .inl (.mv (.s 4))⟩])
  (.ret))
/-- gyttja/sheet.kinds$3 -/
def k110 : Cd :=
  .seq (.region [⟨none, (some 1), .inl (.box 71 3 (.s 0))⟩,
    ⟨none, (some 2), .inl (.alloc 104 [(.bool false), (.int .i64 0), (.int .i64 0), (.slice none 0 0), (.int .i64 0), (.bool false), (.bool false)])⟩])
  (.seq (.draw [⟨⟨none, (some 3), .inl (.fa (.s 1) 1)⟩, (some []), [], 0, false⟩,
    ⟨⟨none, (some 4), .inl (.ld false 1 (.s 3))⟩, (some []), [.fr 15], 1, false⟩,
    ⟨⟨none, (some 5), .inr (.fn 109 [(.s 4)])⟩, (some []), [.fr 15], 3, false⟩,
    ⟨⟨none, (some 6), .inl (.mv (.s 5))⟩, (some []), [], 7, false⟩,
    ⟨⟨(some (6, true)), (some 7), .inl (.fa (.s 1) 2)⟩, (some []), [], 15, false⟩,
    ⟨⟨(some (6, true)), (some 8), .inl (.ld false 1 (.s 7))⟩, (some []), [.fr 15], 31, false⟩,
    ⟨⟨(some (6, true)), (some 9), .inr (.fn 109 [(.s 8)])⟩, (some []), [.fr 15], 63, false⟩,
    ⟨⟨none, (some 10), .inl (.pick (.s 6) (.s 9) (.c (.bool false)))⟩, (some []), [], 127, false⟩,
    ⟨⟨none, (some 11), .inl (.fa (.s 1) 1)⟩, (some []), [], 0, false⟩,
    ⟨⟨none, (some 12), .inl (.ld false 1 (.s 11))⟩, (some []), [], 256, false⟩,
    ⟨⟨none, (some 13), .inl (.fa (.s 1) 2)⟩, (some []), [], 0, false⟩,
    ⟨⟨none, (some 14), .inl (.ld false 1 (.s 13))⟩, (some []), [], 1024, false⟩,
    ⟨⟨none, (some 15), .inl (.bs 3 1 2 [(.int .i64 0)] [(0, (.s 12)), (1, (.s 14))])⟩, (some [.fr 15]), [], 3840, false⟩,
    ⟨⟨none, (some 16), .inl (.bld [(.bool false), (.int .i64 0), (.int .i64 0), (.slice none 0 0), (.int .i64 0), (.bool false), (.bool false)] [(0, 1, (.s 10)), (1, 1, (.c (.int .i64 1))), (2, 1, (.c (.int .i64 2))), (3, 1, (.s 15)), (6, 1, (.c (.bool true)))])⟩, (some []), [], 8191, false⟩,
    ⟨⟨none, none, .inl (.st 7 (.s 2) (.s 16))⟩, (some [.at 2]), [], 16383, false⟩])
  (.ret))
/-- gyttja/sheet.kinds$4 -/
def k111 : Cd :=
  .seq (.region [⟨none, (some 1), .inl (.box 71 3 (.s 0))⟩,
    ⟨none, (some 2), .inl (.alloc 104 [(.bool false), (.int .i64 0), (.int .i64 0), (.slice none 0 0), (.int .i64 0), (.bool false), (.bool false)])⟩])
  (.seq (.draw [⟨⟨none, (some 3), .inl (.fa (.s 1) 1)⟩, (some []), [], 0, false⟩,
    ⟨⟨none, (some 4), .inl (.ld false 1 (.s 3))⟩, (some []), [], 1, false⟩,
    ⟨⟨none, (some 5), .inr (.fn 69 [(.s 4), (.c (.int .i64 1)), (.c (.int .i64 1000))])⟩, (some []), [], 3, false⟩,
    ⟨⟨none, (some 6), .inl (.mv (.s 5))⟩, (some []), [], 7, false⟩,
    ⟨⟨(some (6, true)), (some 7), .inl (.fa (.s 1) 2)⟩, (some []), [], 15, false⟩,
    ⟨⟨(some (6, true)), (some 8), .inl (.ld false 1 (.s 7))⟩, (some []), [], 31, false⟩,
    ⟨⟨(some (6, true)), (some 9), .inl (.bin .eql (.s 8) (.c (.int .i64 0)))⟩, (some []), [], 63, false⟩,
    ⟨⟨none, (some 10), .inl (.pick (.s 6) (.s 9) (.c (.bool false)))⟩, (some []), [], 127, false⟩,
    ⟨⟨none, (some 11), .inl (.fa (.s 1) 1)⟩, (some []), [], 0, false⟩,
    ⟨⟨none, (some 12), .inl (.ld false 1 (.s 11))⟩, (some []), [], 256, false⟩,
    ⟨⟨none, (some 13), .inl (.bld [(.bool false), (.int .i64 0), (.int .i64 0), (.slice none 0 0), (.int .i64 0), (.bool false), (.bool false)] [(0, 1, (.s 10)), (2, 1, (.s 12)), (5, 1, (.c (.bool true))), (6, 1, (.c (.bool true)))])⟩, (some []), [], 1023, false⟩,
    ⟨⟨none, none, .inl (.st 7 (.s 2) (.s 13))⟩, (some [.at 2]), [], 2047, false⟩])
  (.ret))
/-- gyttja/sheet.kinds$5 -/
def k112 : Cd :=
  .seq (.region [⟨none, (some 1), .inl (.box 71 3 (.s 0))⟩,
    ⟨none, (some 2), .inl (.alloc 104 [(.bool false), (.int .i64 0), (.int .i64 0), (.slice none 0 0), (.int .i64 0), (.bool false), (.bool false)])⟩])
  (.seq (.draw [⟨⟨none, (some 3), .inl (.fa (.s 1) 1)⟩, (some []), [], 0, false⟩,
    ⟨⟨none, (some 4), .inl (.ld false 1 (.s 3))⟩, (some []), [], 1, false⟩,
    ⟨⟨none, (some 5), .inr (.fn 109 [(.s 4)])⟩, (some []), [], 3, false⟩,
    ⟨⟨none, (some 6), .inl (.mv (.s 5))⟩, (some []), [], 7, false⟩,
    ⟨⟨(some (6, true)), (some 7), .inl (.fa (.s 1) 2)⟩, (some []), [], 15, false⟩,
    ⟨⟨(some (6, true)), (some 8), .inl (.ld false 1 (.s 7))⟩, (some []), [], 31, false⟩,
    ⟨⟨(some (6, true)), (some 9), .inl (.bin .eql (.s 8) (.c (.int .i64 0)))⟩, (some []), [], 63, false⟩,
    ⟨⟨none, (some 10), .inl (.pick (.s 6) (.s 9) (.c (.bool false)))⟩, (some []), [], 127, false⟩,
    ⟨⟨none, (some 11), .inl (.fa (.s 1) 1)⟩, (some []), [], 0, false⟩,
    ⟨⟨none, (some 12), .inl (.ld false 1 (.s 11))⟩, (some []), [], 256, false⟩,
    ⟨⟨none, (some 13), .inl (.bld [(.bool false), (.int .i64 0), (.int .i64 0), (.slice none 0 0), (.int .i64 0), (.bool false), (.bool false)] [(0, 1, (.s 10)), (4, 1, (.s 12))])⟩, (some []), [], 1023, false⟩,
    ⟨⟨none, none, .inl (.st 7 (.s 2) (.s 13))⟩, (some [.at 2]), [], 2047, false⟩])
  (.ret))
/-- gyttja/sheet.kinds$6 -/
def k113 : Cd :=
  .seq (.region [⟨none, (some 1), .inl (.box 71 3 (.s 0))⟩,
    ⟨none, (some 2), .inl (.alloc 104 [(.bool false), (.int .i64 0), (.int .i64 0), (.slice none 0 0), (.int .i64 0), (.bool false), (.bool false)])⟩])
  (.seq (.region [⟨none, (some 4), .inl (.fa (.s 1) 1)⟩,
    ⟨none, (some 5), .inl (.ld false 1 (.s 4))⟩,
    ⟨none, (some 6), .inl (.fa (.s 1) 2)⟩,
    ⟨none, (some 7), .inl (.ld false 1 (.s 6))⟩,
    ⟨none, (some 8), .inr (.fn 69 [(.s 5), (.c (.int .i64 0)), (.s 7)])⟩,
    ⟨none, (some 9), .inl (.mv (.s 8))⟩,
    ⟨(some (9, true)), (some 10), .inl (.fa (.s 1) 2)⟩,
    ⟨(some (9, true)), (some 11), .inl (.ld false 1 (.s 10))⟩,
    ⟨(some (9, true)), (some 12), .inr (.fn 69 [(.s 11), (.c (.int .i64 1)), (.c (.int .i64 1000))])⟩,
    ⟨none, (some 13), .inl (.pick (.s 9) (.s 12) (.c (.bool false)))⟩,
    ⟨none, (some 3), .inl (.mv (.s 13))⟩])
  (.seq (.region [⟨none, (some 14), .inl (.mv (.s 3))⟩,
    ⟨none, (some 15), .inl (.fa (.s 1) 1)⟩,
    ⟨none, (some 16), .inl (.ld false 1 (.s 15))⟩,
    ⟨none, (some 17), .inl (.fa (.s 1) 2)⟩,
    ⟨none, (some 18), .inl (.ld false 1 (.s 17))⟩,
    ⟨none, (some 19), .inl (.bld [(.bool false), (.int .i64 0), (.int .i64 0), (.slice none 0 0), (.int .i64 0), (.bool false), (.bool false)] [(0, 1, (.s 14)), (1, 1, (.s 16)), (2, 1, (.s 18)), (5, 1, (.c (.bool true))), (6, 1, (.c (.bool true)))])⟩,
    ⟨none, none, .inl (.st 7 (.s 2) (.s 19))⟩])
  (.ret)))
def k114l0 : Cd :=
  .seq (.region [⟨none, (some 9), .inl (.bin .lss (.s 8) (.s 7))⟩])
  (.seq (.cond (.s 9) (.skip)
  (.exit 0))
  (.seq (.block 1 (.seq (.region [⟨none, (some 10), .inl (.mv (.s 8))⟩,
    ⟨none, (some 5), .inl (.mv (.s 10))⟩])
  (.seq (.region [⟨none, (some 11), .inl (.mv (.s 1))⟩,
    ⟨none, (some 12), .inl (.mv (.s 0))⟩,
    ⟨none, (some 13), .inl (.mv (.s 5))⟩,
    ⟨none, (some 14), .inl (.ias 7 (.s 12) (.s 13))⟩,
    ⟨none, (some 15), .inl (.ld true 7 (.s 14))⟩,
    ⟨none, (some 16), .inr (.val (.s 11) [(.s 15)])⟩])
  (.cond (.s 16) (.seq (.region [⟨none, (some 17), .inl (.mv (.s 5))⟩,
     ⟨none, (some 4), .inl (.mv (.s 17))⟩])
   (.ret))
  (.skip)))))
  (.region [⟨none, (some 18), .inl (.bin .add (.s 8) (.c (.int .i64 1)))⟩,
    ⟨none, (some 8), .inl (.mv (.s 18))⟩])))
/-- slices.IndexFunc[[]gyttja/sheet.nature,gyttja/sheet.nature] -/
def k114 : Cd :=
  .seq (.region [⟨none, (some 4), .inl (.mv (.c (.int .i64 0)))⟩])
  (.seq (.seq (.region [⟨none, (some 6), .inl (.mv (.s 0))⟩,
    ⟨none, (some 7), .inl (.len (.s 6))⟩,
    ⟨none, (some 8), .inl (.mv (.c (.int .i64 0)))⟩])
  (.block 0 (.loop k114l0)))
  (.seq (.region [⟨none, (some 4), .inl (.mv (.c (.int .i64 (-1))))⟩])
  (.ret)))
/-- internal/stringslite.IndexByte -/
def k115 : Cd :=
  .seq (.region [⟨none, (some 4), .inl (.mv (.c (.int .i64 0)))⟩])
  (.seq (.region [⟨none, (some 5), .inl (.mv (.s 0))⟩,
    ⟨none, (some 6), .inl (.mv (.s 1))⟩,
    ⟨none, (some 7), .inr (.ixb 124 [(.s 5), (.s 6)])⟩,
    ⟨none, (some 4), .inl (.mv (.s 7))⟩])
  (.ret))
/-- internal/stringslite.HasSuffix -/
def k116 : Cd :=
  .seq (.region [⟨none, (some 4), .inl (.mv (.c (.bool false)))⟩])
  (.seq (.region [⟨none, (some 5), .inl (.mv (.s 0))⟩,
    ⟨none, (some 6), .inl (.lens (.s 5))⟩,
    ⟨none, (some 7), .inl (.mv (.s 1))⟩,
    ⟨none, (some 8), .inl (.lens (.s 7))⟩,
    ⟨none, (some 9), .inl (.bin .geq (.s 6) (.s 8))⟩,
    ⟨none, (some 10), .inl (.mv (.s 9))⟩,
    ⟨(some (10, true)), (some 11), .inl (.mv (.s 0))⟩,
    ⟨(some (10, true)), (some 12), .inl (.mv (.s 0))⟩,
    ⟨(some (10, true)), (some 13), .inl (.lens (.s 12))⟩,
    ⟨(some (10, true)), (some 14), .inl (.mv (.s 1))⟩,
    ⟨(some (10, true)), (some 15), .inl (.lens (.s 14))⟩,
    ⟨(some (10, true)), (some 16), .inl (.bin .sub (.s 13) (.s 15))⟩,
    ⟨(some (10, true)), (some 17), .inl (.sls (.s 11) (some (.s 16)) none)⟩,
    ⟨(some (10, true)), (some 18), .inl (.mv (.s 1))⟩,
    ⟨(some (10, true)), (some 19), .inl (.bin .eql (.s 17) (.s 18))⟩,
    ⟨none, (some 20), .inl (.pick (.s 10) (.s 19) (.c (.bool false)))⟩,
    ⟨none, (some 4), .inl (.mv (.s 20))⟩])
  (.ret))
def k121l0 : Cd :=
  .seq (.seq (.region [⟨none, (some 16), .inl (.mv (.s 6))⟩,
    ⟨none, (some 17), .inl (.mv (.s 0))⟩,
    ⟨none, (some 18), .inl (.len (.s 17))⟩,
    ⟨none, (some 19), .inl (.bin .lss (.s 16) (.s 18))⟩])
  (.cond (.s 19) (.skip)
  (.exit 0)))
  (.seq (.block 1 (.seq (.region [⟨none, (some 22), .inl (.mv (.s 0))⟩,
    ⟨none, (some 23), .inl (.mv (.s 6))⟩,
    ⟨none, (some 24), .inl (.ias 1 (.s 22) (.s 23))⟩,
    ⟨none, (some 25), .inl (.ld false 1 (.s 24))⟩,
    ⟨none, (some 7), .inl (.mv (.s 25))⟩])
  (.seq (.region [⟨none, (some 26), .inl (.mv (.s 1))⟩,
    ⟨none, (some 27), .inl (.mv (.s 7))⟩,
    ⟨none, (some 28), .inr (.val (.s 26) [(.s 27)])⟩,
    ⟨none, (some 29), .inl (.not (.s 28))⟩])
  (.cond (.s 29) (.seq (.region [⟨none, (some 30), .inl (.mv (.s 0))⟩,
     ⟨none, (some 31), .inl (.mv (.s 5))⟩,
     ⟨none, (some 32), .inl (.mv (.s 7))⟩,
     ⟨none, (some 33), .inl (.ias 1 (.s 30) (.s 31))⟩,
     ⟨none, none, .inl (.st 1 (.s 33) (.s 32))⟩])
   (.region [⟨none, (some 34), .inl (.mv (.s 5))⟩,
     ⟨none, (some 35), .inl (.bin .add (.s 34) (.c (.int .i64 1)))⟩,
     ⟨none, (some 5), .inl (.mv (.s 35))⟩]))
  (.skip)))))
  (.region [⟨none, (some 20), .inl (.mv (.s 6))⟩,
    ⟨none, (some 21), .inl (.bin .add (.s 20) (.c (.int .i64 1)))⟩,
    ⟨none, (some 6), .inl (.mv (.s 21))⟩]))
/-- slices.DeleteFunc[[]int,int] -/
def k121 : Cd :=
  .seq (.region [⟨none, (some 4), .inl (.mv (.c (.slice none 0 0)))⟩])
  (.seq (.region [⟨none, (some 8), .inl (.mv (.s 0))⟩,
    ⟨none, (some 9), .inl (.mv (.s 1))⟩,
    ⟨none, (some 10), .inr (.fn 130 [(.s 8), (.s 9)])⟩,
    ⟨none, (some 5), .inl (.mv (.s 10))⟩])
  (.seq (.seq (.region [⟨none, (some 11), .inl (.mv (.s 5))⟩,
    ⟨none, (some 12), .inl (.bin .eql (.s 11) (.c (.int .i64 (-1))))⟩])
  (.cond (.s 12) (.seq (.region [⟨none, (some 13), .inl (.mv (.s 0))⟩,
     ⟨none, (some 4), .inl (.mv (.s 13))⟩])
   (.ret))
  (.skip)))
  (.seq (.seq (.region [⟨none, (some 14), .inl (.mv (.s 5))⟩,
    ⟨none, (some 15), .inl (.bin .add (.s 14) (.c (.int .i64 1)))⟩,
    ⟨none, (some 6), .inl (.mv (.s 15))⟩])
  (.block 0 (.loop k121l0)))
  (.seq (.region [⟨none, (some 36), .inl (.mv (.s 0))⟩,
    ⟨none, (some 37), .inl (.mv (.s 5))⟩,
    ⟨none, (some 38), .inl (.slc 1 (.s 36) (some (.s 37)) none none)⟩,
    ⟨none, none, .inl (.clr [(.int .i64 0)] (.s 38))⟩])
  (.seq (.region [⟨none, (some 39), .inl (.mv (.s 0))⟩,
    ⟨none, (some 40), .inl (.mv (.s 5))⟩,
    ⟨none, (some 41), .inl (.slc 1 (.s 39) none (some (.s 40)) none)⟩,
    ⟨none, (some 4), .inl (.mv (.s 41))⟩])
  (.ret))))))
/-- gyttja/sheet.common$1 -/
def k122 : Cd :=
  .seq (.region [⟨none, (some 3), .inl (.mv (.c (.bool false)))⟩])
  (.seq (.region [⟨none, (some 4), .inl (.ld false 1 (.s 1))⟩,
    ⟨none, (some 5), .inl (.mv (.s 0))⟩,
    ⟨none, (some 6), .inr (.fn 123 [(.s 4), (.s 5)])⟩,
    ⟨none, (some 7), .inl (.not (.s 6))⟩,
    ⟨none, (some 3), .inl (.mv (.s 7))⟩])
  (.ret))
/-- slices.Contains[[]int,int] -/
def k123 : Cd :=
  .seq (.region [⟨none, (some 4), .inl (.mv (.c (.bool false)))⟩])
  (.seq (.region [⟨none, (some 5), .inl (.mv (.s 0))⟩,
    ⟨none, (some 6), .inl (.mv (.s 1))⟩,
    ⟨none, (some 7), .inr (.fn 131 [(.s 5), (.s 6)])⟩,
    ⟨none, (some 8), .inl (.bin .geq (.s 7) (.c (.int .i64 0)))⟩,
    ⟨none, (some 4), .inl (.mv (.s 8))⟩])
  (.ret))
def k130l0 : Cd :=
  .seq (.region [⟨none, (some 9), .inl (.bin .lss (.s 8) (.s 7))⟩])
  (.seq (.cond (.s 9) (.skip)
  (.exit 0))
  (.seq (.block 1 (.seq (.region [⟨none, (some 10), .inl (.mv (.s 8))⟩,
    ⟨none, (some 5), .inl (.mv (.s 10))⟩])
  (.seq (.region [⟨none, (some 11), .inl (.mv (.s 1))⟩,
    ⟨none, (some 12), .inl (.mv (.s 0))⟩,
    ⟨none, (some 13), .inl (.mv (.s 5))⟩,
    ⟨none, (some 14), .inl (.ias 1 (.s 12) (.s 13))⟩,
    ⟨none, (some 15), .inl (.ld false 1 (.s 14))⟩,
    ⟨none, (some 16), .inr (.val (.s 11) [(.s 15)])⟩])
  (.cond (.s 16) (.seq (.region [⟨none, (some 17), .inl (.mv (.s 5))⟩,
     ⟨none, (some 4), .inl (.mv (.s 17))⟩])
   (.ret))
  (.skip)))))
  (.region [⟨none, (some 18), .inl (.bin .add (.s 8) (.c (.int .i64 1)))⟩,
    ⟨none, (some 8), .inl (.mv (.s 18))⟩])))
/-- slices.IndexFunc[[]int,int] -/
def k130 : Cd :=
  .seq (.region [⟨none, (some 4), .inl (.mv (.c (.int .i64 0)))⟩])
  (.seq (.seq (.region [⟨none, (some 6), .inl (.mv (.s 0))⟩,
    ⟨none, (some 7), .inl (.len (.s 6))⟩,
    ⟨none, (some 8), .inl (.mv (.c (.int .i64 0)))⟩])
  (.block 0 (.loop k130l0)))
  (.seq (.region [⟨none, (some 4), .inl (.mv (.c (.int .i64 (-1))))⟩])
  (.ret)))
def k131l0 : Cd :=
  .seq (.region [⟨none, (some 9), .inl (.bin .lss (.s 8) (.s 7))⟩])
  (.seq (.cond (.s 9) (.skip)
  (.exit 0))
  (.seq (.block 1 (.seq (.region [⟨none, (some 10), .inl (.mv (.s 8))⟩,
    ⟨none, (some 5), .inl (.mv (.s 10))⟩])
  (.seq (.region [⟨none, (some 11), .inl (.mv (.s 1))⟩,
    ⟨none, (some 12), .inl (.mv (.s 0))⟩,
    ⟨none, (some 13), .inl (.mv (.s 5))⟩,
    ⟨none, (some 14), .inl (.ias 1 (.s 12) (.s 13))⟩,
    ⟨none, (some 15), .inl (.ld false 1 (.s 14))⟩,
    ⟨none, (some 16), .inl (.bin .eql (.s 11) (.s 15))⟩])
  (.cond (.s 16) (.seq (.region [⟨none, (some 17), .inl (.mv (.s 5))⟩,
     ⟨none, (some 4), .inl (.mv (.s 17))⟩])
   (.ret))
  (.skip)))))
  (.region [⟨none, (some 18), .inl (.bin .add (.s 8) (.c (.int .i64 1)))⟩,
    ⟨none, (some 8), .inl (.mv (.s 18))⟩])))
/-- slices.Index[[]int,int] -/
def k131 : Cd :=
  .seq (.region [⟨none, (some 4), .inl (.mv (.c (.int .i64 0)))⟩])
  (.seq (.seq (.region [⟨none, (some 6), .inl (.mv (.s 0))⟩,
    ⟨none, (some 7), .inl (.len (.s 6))⟩,
    ⟨none, (some 8), .inl (.mv (.c (.int .i64 0)))⟩])
  (.block 0 (.loop k131l0)))
  (.seq (.region [⟨none, (some 4), .inl (.mv (.c (.int .i64 (-1))))⟩])
  (.ret)))
end Go.Proofs.YtomiigdpggeacaaDoor
