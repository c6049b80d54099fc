/- The small code of the functions of this program, as its own reader reads them: part B. -/
import Derived.Test.YtlfknfknlcgfcaaGreatDoorCodeA
namespace Go.Proofs.YtlfknfknlcgfcaaGreatDoor
open Go Go.Em
set_option maxRecDepth 100000
def k190l0 : Cd :=
  .seq (.region [vP 14 (vb .lss 13 12)])
 (.seq (.cond (.s 14) (.skip)
 (.exit 0))
 (.seq (.block 1 (.seq (.region [vM 15 13,
 vM 7 15])
 (.seq (.region [vF 16 2 3,
 vL 17 1 16,
 vM 18 7,
 vI 19 1 17 18,
 vL 20 1 19,
 vM 21 20,
 vT 21 22 (.fa (.s 2) 0),
 vT 21 23 (.ld true 2 (.s 22)),
 vT 21 24 (.mv (.s 1)),
 vT 21 25 (.mv (.s 7)),
 ⟨some (21, true), some 26, .inr (.fn 194 [(.s 23), (.s 24), (.s 25)])⟩,
 vT 21 27 (.not (.s 26)),
 vP 28 (.pick (.s 21) (.s 27) (.c (.bool false)))])
 (.cond (.s 28) (.seq (.draw [vD (vM 29 4) 0,
 vD (vF 30 2 2) 0,
 vD (vL 31 1 30) 2,
 vD (vM 32 7) 0,
 vD (vI 33 1 31 32) 14,
 vD (vL 34 1 33) 30,
 vD (vF 35 2 0) 0,
 vD (vF 36 35 0) 64,
 vD (vF 37 36 1) 192,
 vD (vL 38 1 37) 448,
 vD (vM 39 1) 0,
 vD (vI 40 1 38 39) 1984,
 vD (vL 41 1 40) 4032,
 vD (vM 42 7) 0,
 vD (vI 43 1 41 42) 16320,
 vD (vL 44 1 43) 32704,
 vD (vP 45 (vb .sub 34 44)) 65534,
 vD (vP 46 (.mm true (.s 29) (.s 45))) 131071,
 vD (vM 4 46) 262143])
 (.seq (.draw [vD (vM 47 5) 0,
 vD (vF 48 2 2) 0,
 vD (vL 49 1 48) 2,
 vD (vM 50 7) 0,
 vD (vI 51 1 49 50) 14,
 vD (vL 52 1 51) 30,
 vD (vF 53 2 0) 0,
 vD (vF 54 53 0) 64,
 vD (vF 55 54 1) 192,
 vD (vL 56 1 55) 448,
 vD (vM 57 7) 0,
 vD (vI 58 1 56 57) 1984,
 vD (vL 59 1 58) 4032,
 vD (vM 60 1) 0,
 vD (vI 61 1 59 60) 16320,
 vD (vL 62 1 61) 32704,
 vD (vP 63 (vb .add 52 62)) 65534,
 vD (vP 64 (.mm false (.s 47) (.s 63))) 131071,
 vD (vM 5 64) 262143])
 (.region [vP 6 (.mv (.c (.bool false)))])))
 (.skip)))))
 (.region [vP 65 (vc .add 13 1),
 vM 13 65])))
def k190 : Cd :=
  .seq (.region [vP 2 (.box 190 4 (.s 0)),
 vP 4 (.mv (vi 0)),
 vP 5 (.mv (vi 0)),
 vP 6 (.mv (.c (.bool false)))])
 (.seq (.region [vP 4 (.mv (.c (.int .i64 (-1000000000)))),
 vP 5 (.mv (vi 1000000000)),
 vP 6 (.mv (.c (.bool true)))])
 (.seq (.seq (.region [vF 8 2 0,
 vF 9 8 0,
 vF 10 9 0,
 vL 11 1 10,
 vP 12 (.len (.s 11)),
 vP 13 (.mv (vi 0))])
 (.block 0 (.loop k190l0)))
 (.seq (.region [vM 66 4,
 vM 67 5,
 vM 68 6,
 vM 4 66,
 vM 5 67,
 vM 6 68])
 (.ret))))
def k191 : Cd :=
  .seq (.region [vP 3 (.box 190 4 (.s 0))])
 (.draw [vD (vF 6 3 2) 0,
 vD (vL 7 1 6) 1,
 vD (vM 8 1) 0,
 vD (vF 9 3 3) 0,
 ⟨vL 10 1 9, some [], [.keep 3], 8, false⟩,
 vD (vM 11 1) 0,
 vD (vM 12 2) 0,
 vD (vI 13 1 7 8) 71,
 ⟨⟨none, none, .inl (.st 1 (.s 13) (.s 12))⟩, (some [.at 7]), [.av 3], 199, false⟩,
 vD (vI 14 1 10 11) 511,
 ⟨⟨none, none, .inl (.st 1 (.s 14) (.c (.bool true)))⟩, (some [.at 10]), [], 1023, false⟩])
def k192 : Cd :=
  .draw [vD (vM 4 0) 0,
 vD (vM 5 1) 0,
 vD (vP 6 (vc .quo 5 64)) 2,
 vD (vP 7 (.nc (.s 4))) 1,
 vD (vF 8 7 0) 9,
 vD (vP 9 (.iaa 33 1 (.s 8) (.s 6))) 31,
 vD (vL 10 1 9) 63,
 vD (vM 11 1) 0,
 vD (vP 12 (vc .rem 11 64)) 128,
 vD (vP 13 (.bin .shl (.c (.int .u64 1)) (.s 12))) 384,
 vD (vP 14 (vb .or 10 13)) 1023,
 vD (vP 15 (.nc (.s 4))) 1,
 vD (vF 16 15 0) 2049,
 vD (vP 17 (.iaa 33 1 (.s 16) (.s 6))) 8191,
 ⟨⟨none, none, .inl (.st 1 (.s 17) (.s 14))⟩, (some [.at 0]), [], 16383, false⟩]
def k193 : Cd :=
  .seq (.region [vP 2 (.mv (vi 0))])
 (.seq (.seq (.region [vM 3 0,
 vP 4 (.bin .eql (.s 3) (.c (.int .u64 0)))])
 (.cond (.s 4) (.seq (.region [vP 2 (.mv (vi 64))])
 (.ret))
 (.skip)))
 (.seq (.region [vM 5 0,
 vM 6 0,
 vP 7 (.neg (.s 6)),
 vP 8 (vb .and 5 7),
 vP 9 (.bin .mul (.s 8) (.c (.int .u64 285870213051353865))),
 vP 10 (.bin .shr (.s 9) (.c (.int .u64 58))),
 vP 11 (.iaa 64 1 (.g 1) (.s 10)),
 vL 12 1 11,
 vP 13 (.cvi .i64 (.s 12)),
 vM 2 13])
 (.ret)))
def k194 : Cd :=
  .seq (.region [vP 3 (.box 181 2 (.s 0)),
 vP 6 (.mv (.c (.bool false)))])
 (.seq (.region [vF 7 3 0,
 vF 8 7 1,
 vL 9 1 8,
 vM 10 1,
 vI 11 1 9 10,
 vL 12 1 11,
 vM 13 2,
 vI 14 1 12 13,
 vL 15 1 14,
 vP 16 (vc .eql 15 1000000000),
 vM 6 16])
 (.ret))
def k195 : Cd :=
  .seq (.region [vP 6 (.mv (.c (.bool false)))])
 (.seq (.region [vM 7 1,
 vM 8 0,
 vP 9 (vb .leq 7 8),
 vM 10 9,
 vT 10 11 (.mv (.s 0)),
 vT 10 12 (.mv (.s 2)),
 vT 10 13 (vb .leq 11 12),
 vP 14 (.pick (.s 10) (.s 13) (.c (.bool false))),
 vM 6 14])
 (.ret))
def k198 : Cd :=
  .seq (.region [vP 2 (.mv (.c (.slice none 0 0)))])
 (.seq (.region [vM 3 0,
 vN 4 219 [(.s 3)]])
 (.seq (.region [vM 5 0,
 vN 6 220 [(.s 5)],
 vM 2 6])
 (.ret)))
def k199 : Cd :=
  .seq (.region [vP 3 (.mv (.c (.bool false)))])
 (.seq (.draw [vD (vF 4 1 1) 0,
 vD (vL 5 1 4) 1,
 vD (vF 6 1 0) 0,
 vD (vL 7 1 6) 4,
 vD (vM 8 0) 0,
 vD (vI 9 5 7 8) 28,
 vD (vF 10 9 4) 60,
 vD (vL 11 1 10) 124,
 vD (vP 12 (.lk .int (.bool false) false (.s 5) (.s 11))) 255,
 vD (vM 3 12) 511])
 (.ret))
def k200l0 : Cd :=
  .seq (.seq (.region [vM 7 3,
 vP 8 (vc .geq 7 0)])
 (.cond (.s 8) (.skip)
 (.exit 0)))
 (.seq (.block 1 (.seq (.region [vM 11 0,
 vM 12 3,
 vL 13 1 1,
 vM 14 3,
 vI 15 1 13 14,
 vL 16 1 15,
 ⟨none, some 17, .inr (.val false (.s 11) [(.s 12), (.s 16)])⟩,
 vP 18 (.not (.s 17))])
 (.cond (.s 18) (.ret)
 (.skip))))
 (.region [vM 9 3,
 vP 10 (vc .sub 9 1),
 vM 3 10]))
def k200 : Cd :=
  .seq (.region [vL 4 1 1,
 vP 5 (.len (.s 4)),
 vP 6 (vc .sub 5 1),
 vM 3 6])
 (.block 0 (.loop k200l0))
def k201l0 : Cd :=
  .seq (.region [vP 9 (vb .lss 8 7)])
 (.seq (.cond (.s 9) (.skip)
 (.exit 0))
 (.seq (.block 1 (.seq (.region [vM 10 8,
 vM 5 10])
 (.seq (.region [vM 11 1,
 vM 12 0,
 vM 13 5,
 vI 14 1 12 13,
 vL 15 1 14,
 ⟨none, some 16, .inr (.val false (.s 11) [(.s 15)])⟩])
 (.cond (.s 16) (.seq (.region [vM 17 5,
 vM 4 17])
 (.ret))
 (.skip)))))
 (.region [vP 18 (vc .add 8 1),
 vM 8 18])))
def k201 : Cd :=
  .seq (.region [vP 4 (.mv (vi 0))])
 (.seq (.seq (.region [vM 6 0,
 vP 7 (.len (.s 6)),
 vP 8 (.mv (vi 0))])
 (.block 0 (.loop k201l0)))
 (.seq (.region [vP 4 (.mv (.c (.int .i64 (-1))))])
 (.ret)))
def k202l0 : Cd :=
  .seq (.region [vP 26 (vb .lss 25 24)])
 (.seq (.cond (.s 26) (.skip)
 (.exit 2))
 (.seq (.block 3 (.seq (.region [vM 27 25,
 vI 28 5 23 25,
 vP 29 (.ld true 5 (.s 28)),
 vP 6 (.alloc 224 [(.int .i64 0), (.bool false), (.int .i64 0), (.int .i64 0), (.int .i64 0)]),
 vM 5 27,
 ⟨none, none, .inl (.st 5 (.s 6) (.s 29))⟩])
 (.seq (.draw [vD (vM 30 4) 0,
 vD (vF 31 6 2) 0,
 vD (vL 32 1 31) 2,
 vD (vI 33 1 30 32) 7,
 vD (vL 34 1 33) 15,
 vD (vF 35 6 4) 0,
 vD (vL 36 1 35) 32,
 vD (vP 37 (vb .add 34 36)) 127,
 vD (vM 7 37) 255])
 (.seq (.region [vM 38 7,
 vM 39 4,
 vF 40 6 3,
 vL 41 1 40,
 vI 42 1 39 41,
 vL 43 1 42,
 vP 44 (vb .lss 38 43)])
 (.cond (.s 44) (.draw [vD (vM 45 4) 0,
 vD (vF 46 6 3) 0,
 vD (vL 47 1 46) 2,
 vD (vM 48 2) 0,
 vD (vF 49 6 3) 0,
 ⟨vL 50 1 49, some [], [.at 4], 16, false⟩,
 vD (vM 51 7) 0,
 vD (vM 52 5) 0,
 vD (vF 53 6 3) 0,
 ⟨vL 54 1 53, some [], [.at 4, .at 2], 256, false⟩,
 vD (vI 55 1 45 47) 71,
 ⟨⟨none, none, .inl (.st 1 (.s 55) (.s 51))⟩, (some [.at 4]), [], 1095, false⟩,
 vD (vI 56 1 48 50) 3327,
 ⟨⟨none, none, .inl (.st 1 (.s 56) (.s 52))⟩, (some [.at 2]), [], 7423, false⟩,
 vD (vM 3 54) 16383])
 (.skip))))))
 (.region [vP 57 (vc .add 25 1),
 vM 25 57])))
def k202l1 : Cd :=
  .seq (.region [vP 21 (vb .lss 20 19)])
 (.seq (.cond (.s 21) (.skip)
 (.exit 0))
 (.seq (.block 1 (.seq (.region [vP 3 (.mv (.c (.int .i64 (-1))))])
 (.seq (.seq (.region [vF 22 1 1,
 vL 23 1 22,
 vP 24 (.len (.s 23)),
 vP 25 (.mv (vi 0))])
 (.block 2 (.loop k202l0)))
 (.seq (.region [vM 58 3,
 vP 59 (.bin .eql (.s 58) (.c (.int .i64 (-1))))])
 (.cond (.s 59) (.exit 0)
 (.skip))))))
 (.region [vP 60 (vc .add 20 1),
 vM 20 60])))
def k202 : Cd :=
  .seq (.region [vP 1 (.box 186 2 (.s 0)),
 vP 2 (.mv (.c (.slice none 0 0))),
 vP 3 (.mv (vi 0))])
 (.seq (.region [vF 8 1 0,
 vL 9 1 8,
 vP 10 (.len (.s 9)),
 vP 11 (.mks 3 1 8 [(.int .i64 0)] (.s 10) (.s 10)),
 vM 4 11])
 (.seq (.region [vP 12 (.bst 3 1 1 [(.int .i64 0)] [(0, (.c (.int .i64 (-1))))]),
 vF 13 1 0,
 vL 14 1 13,
 vP 15 (.len (.s 14)),
 vN 16 215 [(.s 12), (.s 15)],
 vM 2 16])
 (.seq (.region [vP 3 (.mv (.c (.int .i64 (-1))))])
 (.seq (.seq (.region [vF 17 1 0,
 vL 18 1 17,
 vP 19 (.len (.s 18)),
 vP 20 (.mv (vi 0))])
 (.block 0 (.loop k202l1)))
 (.seq (.region [vM 61 2,
 vM 62 3,
 vM 2 61,
 vM 3 62])
 (.ret))))))
def k203l0 : Cd :=
  .seq (.seq (.region [vM 7 2,
 vM 8 3,
 vP 9 (vb .lss 7 8)])
 (.cond (.s 9) (.skip)
 (.exit 0)))
 (.seq (.block 1 (.draw [vD (vM 14 0) 0,
 vD (vM 15 2) 0,
 vD (vM 16 0) 0,
 vD (vM 17 3) 0,
 vD (vM 18 0) 0,
 vD (vM 19 3) 0,
 vD (vI 20 2 18 19) 48,
 vD (vP 21 (.ld true 2 (.s 20))) 112,
 vD (vM 22 0) 0,
 vD (vM 23 2) 0,
 vD (vI 24 2 22 23) 768,
 vD (vP 25 (.ld true 2 (.s 24))) 1792,
 vD (vI 26 2 14 15) 4083,
 ⟨⟨none, none, .inl (.st 2 (.s 26) (.s 21))⟩, (some [.at 0]), [], 8179, false⟩,
 vD (vI 27 2 16 17) 16383,
 ⟨⟨none, none, .inl (.st 2 (.s 27) (.s 25))⟩, (some [.at 0]), [], 32767, false⟩]))
 (.region [vM 10 2,
 vP 11 (vc .add 10 1),
 vM 12 3,
 vP 13 (vc .sub 12 1),
 vM 2 11,
 vM 3 13]))
def k203 : Cd :=
  .seq (.region [vM 4 0,
 vP 5 (.len (.s 4)),
 vP 6 (vc .sub 5 1),
 vP 2 (.mv (vi 0)),
 vM 3 6])
 (.block 0 (.loop k203l0))
def k205l0 : Cd :=
  .seq (.seq (.draw [vD (vM 18 9) 0,
 vD (vM 19 1) 0,
 vD (vP 20 (vb .gtr 18 19)) 3,
 vD (vM 21 20) 7,
 vD (vT 21 22 (.mv (.s 3))) 15,
 vD (vT 21 23 (.mv (.s 0))) 15,
 vD (vT 21 24 (.mv (.s 9))) 15,
 vD (vT 21 25 (.ias 2 (.s 23) (.s 24))) 111,
 vD (vT 21 26 (.ld true 2 (.s 25))) 239,
 vD (vT 21 27 (.mv (.s 0))) 15,
 vD (vT 21 28 (.mv (.s 9))) 15,
 vD (vT 21 29 (vc .sub 28 1)) 1039,
 vD (vT 21 30 (.ias 2 (.s 27) (.s 29))) 3599,
 vD (vT 21 31 (.ld true 2 (.s 30))) 7695,
 ⟨⟨some (21, true), some 32, .inr (.val true (.s 22) [(.s 26), (.s 31)])⟩, some [], [], 16383, false⟩,
 vD (vT 21 33 (vc .lss 32 0)) 32767,
 vD (vP 34 (.pick (.s 21) (.s 33) (.c (.bool false)))) 65535])
 (.cond (.s 34) (.skip)
 (.exit 2)))
 (.seq (.block 3 (.draw [vD (vM 37 0) 0,
 vD (vM 38 9) 0,
 vD (vM 39 0) 0,
 vD (vM 40 9) 0,
 vD (vP 41 (vc .sub 40 1)) 8,
 vD (vM 42 0) 0,
 vD (vM 43 9) 0,
 vD (vP 44 (vc .sub 43 1)) 64,
 vD (vI 45 2 42 44) 224,
 vD (vP 46 (.ld true 2 (.s 45))) 480,
 vD (vM 47 0) 0,
 vD (vM 48 9) 0,
 vD (vI 49 2 47 48) 3072,
 vD (vP 50 (.ld true 2 (.s 49))) 7168,
 vD (vI 51 2 37 38) 16355,
 ⟨⟨none, none, .inl (.st 2 (.s 51) (.s 46))⟩, (some [.at 0]), [], 32739, false⟩,
 vD (vI 52 2 39 41) 65535,
 ⟨⟨none, none, .inl (.st 2 (.s 52) (.s 50))⟩, (some [.at 0]), [], 131071, false⟩]))
 (.region [vM 35 9,
 vP 36 (vc .sub 35 1),
 vM 9 36]))
def k205l1 : Cd :=
  .seq (.seq (.region [vM 12 8,
 vM 13 2,
 vP 14 (vb .lss 12 13)])
 (.cond (.s 14) (.skip)
 (.exit 0)))
 (.seq (.block 1 (.seq (.region [vM 17 8,
 vM 9 17])
 (.block 2 (.loop k205l0))))
 (.region [vM 15 8,
 vP 16 (vc .add 15 1),
 vM 8 16]))
def k205 : Cd :=
  .seq (.region [vM 10 1,
 vP 11 (vc .add 10 1),
 vM 8 11])
 (.block 0 (.loop k205l1))
def k206l0 : Cd :=
  .seq (.seq (.region [vM 20 11,
 vP 21 (vc .geq 20 0)])
 (.cond (.s 21) (.skip)
 (.exit 0)))
 (.seq (.block 1 (.region [vM 24 0,
 vM 25 11,
 vM 26 10,
 vM 27 8,
 vM 28 3,
 vN 29 221 [(.s 24), (.s 25), (.s 26), (.s 27), (.s 28)]]))
 (.region [vM 22 11,
 vP 23 (vc .sub 22 1),
 vM 11 23]))
def k206l1 : Cd :=
  .seq (.seq (.region [vM 32 12,
 vP 33 (vc .geq 32 0)])
 (.cond (.s 33) (.skip)
 (.exit 2)))
 (.seq (.block 3 (.seq (.draw [vD (vM 36 0) 0,
 vD (vM 37 8) 0,
 vD (vM 38 0) 0,
 vD (vM 39 8) 0,
 vD (vM 40 12) 0,
 vD (vP 41 (vb .add 39 40)) 24,
 vD (vM 42 0) 0,
 vD (vM 43 8) 0,
 vD (vM 44 12) 0,
 vD (vP 45 (vb .add 43 44)) 384,
 vD (vI 46 2 42 45) 960,
 vD (vP 47 (.ld true 2 (.s 46))) 1984,
 vD (vM 48 0) 0,
 vD (vM 49 8) 0,
 vD (vI 50 2 48 49) 12288,
 vD (vP 51 (.ld true 2 (.s 50))) 28672,
 vD (vI 52 2 36 37) 65475,
 ⟨⟨none, none, .inl (.st 2 (.s 52) (.s 47))⟩, (some [.at 0]), [], 131011, false⟩,
 vD (vI 53 2 38 41) 262143,
 ⟨⟨none, none, .inl (.st 2 (.s 53) (.s 51))⟩, (some [.at 0]), [], 524287, false⟩])
 (.region [vM 54 0,
 vM 55 9,
 vM 56 12,
 vM 57 8,
 vM 58 3,
 vN 59 221 [(.s 54), (.s 55), (.s 56), (.s 57), (.s 58)]])))
 (.region [vM 34 12,
 vP 35 (vc .sub 34 1),
 vM 12 35]))
def k206 : Cd :=
  .seq (.region [vM 13 1,
 vM 8 13])
 (.seq (.region [vP 9 (.mv (vi 0))])
 (.seq (.region [vM 14 2,
 vM 15 1,
 vP 16 (vb .sub 14 15),
 vM 10 16])
 (.seq (.seq (.region [vM 17 10,
 vP 18 (vc .sub 17 1),
 vP 19 (vc .quo 18 2),
 vM 11 19])
 (.block 0 (.loop k206l0)))
 (.seq (.region [vM 30 10,
 vP 31 (vc .sub 30 1),
 vM 12 31])
 (.block 2 (.loop k206l1))))))
def k207l0 : Cd :=
  .seq (.seq (.region [vM 28 11,
 vM 29 1,
 vM 30 8,
 vP 31 (vc .quo 30 4),
 vP 32 (vc .mul 31 2),
 vP 33 (vb .add 29 32),
 vP 34 (vc .add 33 1),
 vP 35 (vb .leq 28 34)])
 (.cond (.s 35) (.skip)
 (.exit 0)))
 (.seq (.block 1 (.seq (.region [vN 38 223 [(.s 9)],
 vM 39 10,
 vP 40 (.bin .sub (.s 39) (.c (.int .u64 1))),
 vP 41 (vb .and 38 40),
 vP 42 (.cvi .i64 (.s 41)),
 vM 12 42])
 (.seq (.seq (.region [vM 43 12,
 vM 44 8,
 vP 45 (vb .geq 43 44)])
 (.cond (.s 45) (.region [vM 46 12,
 vM 47 8,
 vP 48 (vb .sub 46 47),
 vM 12 48])
 (.skip)))
 (.draw [vD (vM 49 0) 0,
 vD (vM 50 11) 0,
 vD (vM 51 0) 0,
 vD (vM 52 1) 0,
 vD (vM 53 12) 0,
 vD (vP 54 (vb .add 52 53)) 24,
 vD (vM 55 0) 0,
 vD (vM 56 1) 0,
 vD (vM 57 12) 0,
 vD (vP 58 (vb .add 56 57)) 384,
 vD (vI 59 2 55 58) 960,
 vD (vP 60 (.ld true 2 (.s 59))) 1984,
 vD (vM 61 0) 0,
 vD (vM 62 11) 0,
 vD (vI 63 2 61 62) 12288,
 vD (vP 64 (.ld true 2 (.s 63))) 28672,
 vD (vI 65 2 49 50) 65475,
 ⟨⟨none, none, .inl (.st 2 (.s 65) (.s 60))⟩, (some [.at 0]), [], 131011, false⟩,
 vD (vI 66 2 51 54) 262143,
 ⟨⟨none, none, .inl (.st 2 (.s 66) (.s 64))⟩, (some [.at 0]), [], 524287, false⟩]))))
 (.region [vM 36 11,
 vP 37 (vc .add 36 1),
 vM 11 37]))
def k207 : Cd :=
  .seq (.region [vM 13 2,
 vM 14 1,
 vP 15 (vb .sub 13 14),
 vM 8 15])
 (.seq (.region [vM 16 8,
 vP 17 (vc .geq 16 8)])
 (.cond (.s 17) (.seq (.region [vM 18 8,
 vP 19 (.cvi .u64 (.s 18)),
 vP 9 (.alloc 253 [(.int .u64 0)]),
 ⟨none, none, .inl (.st 1 (.s 9) (.s 19))⟩])
 (.seq (.region [vM 20 8,
 vN 21 222 [(.s 20)],
 vM 10 21])
 (.seq (.region [vM 22 1,
 vM 23 8,
 vP 24 (vc .quo 23 4),
 vP 25 (vc .mul 24 2),
 vP 26 (vb .add 22 25),
 vP 27 (vc .sub 26 1),
 vM 11 27])
 (.block 0 (.loop k207l0)))))
 (.skip)))
def k208 : Cd :=
  .seq (.region [vP 8 (.mv (vi 0)),
 vP 9 (.mv (vi 0))])
 (.seq (.region [vM 15 2,
 vM 16 1,
 vP 17 (vb .sub 15 16),
 vM 10 17])
 (.seq (.region [vP 11 (.alloc 3 [(.int .i64 0)])])
 (.seq (.region [vM 18 1,
 vM 19 10,
 vP 20 (vc .quo 19 4),
 vP 21 (vc .mul 20 1),
 vP 22 (vb .add 18 21),
 vM 12 22])
 (.seq (.region [vM 23 1,
 vM 24 10,
 vP 25 (vc .quo 24 4),
 vP 26 (vc .mul 25 2),
 vP 27 (vb .add 23 26),
 vM 13 27])
 (.seq (.region [vM 28 1,
 vM 29 10,
 vP 30 (vc .quo 29 4),
 vP 31 (vc .mul 30 3),
 vP 32 (vb .add 28 31),
 vM 14 32])
 (.seq (.seq (.region [vM 33 10,
 vP 34 (vc .geq 33 8)])
 (.cond (.s 34) (.seq (.seq (.region [vM 35 10,
 vP 36 (vc .geq 35 50)])
 (.cond (.s 36) (.seq (.region [vM 37 0,
 vM 38 12,
 vM 39 3,
 vN 40 224 [(.s 37), (.s 38), (.s 11), (.s 39)],
 vM 12 40])
 (.seq (.region [vM 41 0,
 vM 42 13,
 vM 43 3,
 vN 44 224 [(.s 41), (.s 42), (.s 11), (.s 43)],
 vM 13 44])
 (.region [vM 45 0,
 vM 46 14,
 vM 47 3,
 vN 48 224 [(.s 45), (.s 46), (.s 11), (.s 47)],
 vM 14 48])))
 (.skip)))
 (.region [vM 49 0,
 vM 50 12,
 vM 51 13,
 vM 52 14,
 vM 53 3,
 vN 54 225 [(.s 49), (.s 50), (.s 51), (.s 52), (.s 11), (.s 53)],
 vM 13 54]))
 (.skip)))
 (.seq (.region [vL 55 1 11])
 (.block 0 (.seq (.region [vP 58 (vc .eql 55 0),
 vM 57 58])
 (.cond (.s 57) (.seq (.region [vM 59 13,
 vM 8 59,
 vP 9 (.mv (vi 1))])
 (.ret))
 (.seq (.region [vP 61 (vc .eql 55 12),
 vM 60 61])
 (.cond (.s 60) (.seq (.region [vM 62 13,
 vM 8 62,
 vP 9 (.mv (vi 2))])
 (.ret))
 (.seq (.region [vM 56 13,
 vM 8 56,
 vP 9 (.mv (vi 0))])
 (.ret))))))))))))))
def k209l0 : Cd :=
  .seq (.seq (.region [vM 13 8,
 vM 14 9,
 vP 15 (vb .lss 13 14)])
 (.cond (.s 15) (.skip)
 (.exit 0)))
 (.block 1 (.seq (.draw [vD (vM 16 0) 0,
 vD (vM 17 8) 0,
 vD (vM 18 0) 0,
 vD (vM 19 9) 0,
 vD (vM 20 0) 0,
 vD (vM 21 9) 0,
 vD (vI 22 2 20 21) 48,
 vD (vP 23 (.ld true 2 (.s 22))) 112,
 vD (vM 24 0) 0,
 vD (vM 25 8) 0,
 vD (vI 26 2 24 25) 768,
 vD (vP 27 (.ld true 2 (.s 26))) 1792,
 vD (vI 28 2 16 17) 4083,
 ⟨⟨none, none, .inl (.st 2 (.s 28) (.s 23))⟩, (some [.at 0]), [], 8179, false⟩,
 vD (vI 29 2 18 19) 16383,
 ⟨⟨none, none, .inl (.st 2 (.s 29) (.s 27))⟩, (some [.at 0]), [], 32767, false⟩])
 (.seq (.region [vM 30 8,
 vP 31 (vc .add 30 1),
 vM 8 31])
 (.region [vM 32 9,
 vP 33 (vc .sub 32 1),
 vM 9 33]))))
def k209 : Cd :=
  .seq (.region [vM 10 1,
 vM 8 10])
 (.seq (.region [vM 11 2,
 vP 12 (vc .sub 11 1),
 vM 9 12])
 (.block 0 (.loop k209l0)))
def k210l0 : Cd :=
  .seq (.seq (.draw [vD (vM 19 9) 0,
 vD (vM 20 2) 0,
 vD (vP 21 (vb .lss 19 20)) 3,
 vD (vM 22 21) 7,
 vD (vT 22 23 (.mv (.s 3))) 15,
 vD (vT 22 24 (.mv (.s 0))) 15,
 vD (vT 22 25 (.mv (.s 9))) 15,
 vD (vT 22 26 (.ias 2 (.s 24) (.s 25))) 111,
 vD (vT 22 27 (.ld true 2 (.s 26))) 239,
 vD (vT 22 28 (.mv (.s 0))) 15,
 vD (vT 22 29 (.mv (.s 9))) 15,
 vD (vT 22 30 (vc .sub 29 1)) 1039,
 vD (vT 22 31 (.ias 2 (.s 28) (.s 30))) 3599,
 vD (vT 22 32 (.ld true 2 (.s 31))) 7695,
 ⟨⟨some (22, true), some 33, .inr (.val true (.s 23) [(.s 27), (.s 32)])⟩, some [], [], 16383, false⟩,
 vD (vT 22 34 (vc .lss 33 0)) 32767,
 vD (vT 22 35 (.not (.s 34))) 65535,
 vD (vP 36 (.pick (.s 22) (.s 35) (.c (.bool false)))) 131071])
 (.cond (.s 36) (.skip)
 (.exit 2)))
 (.block 3 (.region [vM 37 9,
 vP 38 (vc .add 37 1),
 vM 9 38]))
def k210l1 : Cd :=
  .seq (.seq (.region [vM 68 11,
 vP 69 (vc .geq 68 1)])
 (.cond (.s 69) (.skip)
 (.exit 4)))
 (.seq (.block 5 (.seq (.seq (.draw [vD (vM 72 3) 0,
 vD (vM 73 0) 0,
 vD (vM 74 11) 0,
 vD (vI 75 2 73 74) 6,
 vD (vP 76 (.ld true 2 (.s 75))) 14,
 vD (vM 77 0) 0,
 vD (vM 78 11) 0,
 vD (vP 79 (vc .sub 78 1)) 64,
 vD (vI 80 2 77 79) 224,
 vD (vP 81 (.ld true 2 (.s 80))) 480,
 ⟨⟨none, some 82, .inr (.val false (.s 72) [(.s 76), (.s 81)])⟩, some [], [], 1023, false⟩,
 vD (vP 83 (vc .lss 82 0)) 2047,
 vD (vP 84 (.not (.s 83))) 4095])
 (.cond (.s 84) (.exit 4)
 (.skip)))
 (.draw [vD (vM 85 0) 0,
 vD (vM 86 11) 0,
 vD (vM 87 0) 0,
 vD (vM 88 11) 0,
 vD (vP 89 (vc .sub 88 1)) 8,
 vD (vM 90 0) 0,
 vD (vM 91 11) 0,
 vD (vP 92 (vc .sub 91 1)) 64,
 vD (vI 93 2 90 92) 224,
 vD (vP 94 (.ld true 2 (.s 93))) 480,
 vD (vM 95 0) 0,
 vD (vM 96 11) 0,
 vD (vI 97 2 95 96) 3072,
 vD (vP 98 (.ld true 2 (.s 97))) 7168,
 vD (vI 99 2 85 86) 16355,
 ⟨⟨none, none, .inl (.st 2 (.s 99) (.s 94))⟩, (some [.at 0]), [], 32739, false⟩,
 vD (vI 100 2 87 89) 65535,
 ⟨⟨none, none, .inl (.st 2 (.s 100) (.s 98))⟩, (some [.at 0]), [], 131071, false⟩])))
 (.region [vM 70 11,
 vP 71 (vc .sub 70 1),
 vM 11 71]))
def k210l2 : Cd :=
  .seq (.seq (.region [vM 107 12,
 vM 108 2,
 vP 109 (vb .lss 107 108)])
 (.cond (.s 109) (.skip)
 (.exit 6)))
 (.seq (.block 7 (.seq (.seq (.draw [vD (vM 112 3) 0,
 vD (vM 113 0) 0,
 vD (vM 114 12) 0,
 vD (vI 115 2 113 114) 6,
 vD (vP 116 (.ld true 2 (.s 115))) 14,
 vD (vM 117 0) 0,
 vD (vM 118 12) 0,
 vD (vP 119 (vc .sub 118 1)) 64,
 vD (vI 120 2 117 119) 224,
 vD (vP 121 (.ld true 2 (.s 120))) 480,
 ⟨⟨none, some 122, .inr (.val false (.s 112) [(.s 116), (.s 121)])⟩, some [], [], 1023, false⟩,
 vD (vP 123 (vc .lss 122 0)) 2047,
 vD (vP 124 (.not (.s 123))) 4095])
 (.cond (.s 124) (.exit 6)
 (.skip)))
 (.draw [vD (vM 125 0) 0,
 vD (vM 126 12) 0,
 vD (vM 127 0) 0,
 vD (vM 128 12) 0,
 vD (vP 129 (vc .sub 128 1)) 8,
 vD (vM 130 0) 0,
 vD (vM 131 12) 0,
 vD (vP 132 (vc .sub 131 1)) 64,
 vD (vI 133 2 130 132) 224,
 vD (vP 134 (.ld true 2 (.s 133))) 480,
 vD (vM 135 0) 0,
 vD (vM 136 12) 0,
 vD (vI 137 2 135 136) 3072,
 vD (vP 138 (.ld true 2 (.s 137))) 7168,
 vD (vI 139 2 125 126) 16355,
 ⟨⟨none, none, .inl (.st 2 (.s 139) (.s 134))⟩, (some [.at 0]), [], 32739, false⟩,
 vD (vI 140 2 127 129) 65535,
 ⟨⟨none, none, .inl (.st 2 (.s 140) (.s 138))⟩, (some [.at 0]), [], 131071, false⟩])))
 (.region [vM 110 12,
 vP 111 (vc .add 110 1),
 vM 12 111]))
def k210l3 : Cd :=
  .seq (.seq (.region [vM 15 10,
 vP 16 (vc .lss 15 5)])
 (.cond (.s 16) (.skip)
 (.exit 0)))
 (.seq (.block 1 (.seq (.block 2 (.loop k210l0))
 (.seq (.seq (.region [vM 39 9,
 vM 40 2,
 vP 41 (vb .eql 39 40)])
 (.cond (.s 41) (.seq (.region [vP 8 (.mv (.c (.bool true)))])
 (.ret))
 (.skip)))
 (.seq (.seq (.region [vM 42 2,
 vM 43 1,
 vP 44 (vb .sub 42 43),
 vP 45 (vc .lss 44 50)])
 (.cond (.s 45) (.seq (.region [vP 8 (.mv (.c (.bool false)))])
 (.ret))
 (.skip)))
 (.seq (.draw [vD (vM 46 0) 0,
 vD (vM 47 9) 0,
 vD (vM 48 0) 0,
 vD (vM 49 9) 0,
 vD (vP 50 (vc .sub 49 1)) 8,
 vD (vM 51 0) 0,
 vD (vM 52 9) 0,
 vD (vP 53 (vc .sub 52 1)) 64,
 vD (vI 54 2 51 53) 224,
 vD (vP 55 (.ld true 2 (.s 54))) 480,
 vD (vM 56 0) 0,
 vD (vM 57 9) 0,
 vD (vI 58 2 56 57) 3072,
 vD (vP 59 (.ld true 2 (.s 58))) 7168,
 vD (vI 60 2 46 47) 16355,
 ⟨⟨none, none, .inl (.st 2 (.s 60) (.s 55))⟩, (some [.at 0]), [], 32739, false⟩,
 vD (vI 61 2 48 50) 65535,
 ⟨⟨none, none, .inl (.st 2 (.s 61) (.s 59))⟩, (some [.at 0]), [], 131071, false⟩])
 (.seq (.seq (.region [vM 62 9,
 vM 63 1,
 vP 64 (vb .sub 62 63),
 vP 65 (vc .geq 64 2)])
 (.cond (.s 65) (.seq (.region [vM 66 9,
 vP 67 (vc .sub 66 1),
 vM 11 67])
 (.block 4 (.loop k210l1)))
 (.skip)))
 (.seq (.region [vM 101 2,
 vM 102 9,
 vP 103 (vb .sub 101 102),
 vP 104 (vc .geq 103 2)])
 (.cond (.s 104) (.seq (.region [vM 105 9,
 vP 106 (vc .add 105 1),
 vM 12 106])
 (.block 6 (.loop k210l2)))
 (.skip)))))))))
 (.region [vM 17 10,
 vP 18 (vc .add 17 1),
 vM 10 18]))
def k210 : Cd :=
  .seq (.region [vP 8 (.mv (.c (.bool false)))])
 (.seq (.region [vM 13 1,
 vP 14 (vc .add 13 1),
 vM 9 14])
 (.seq (.seq (.region [vP 10 (.mv (vi 0))])
 (.block 0 (.loop k210l3)))
 (.seq (.region [vP 8 (.mv (.c (.bool false)))])
 (.ret))))
def k211l0 : Cd :=
  .seq (.seq (.draw [vD (vM 31 11) 0,
 vD (vM 32 12) 0,
 vD (vP 33 (vb .leq 31 32)) 3,
 vD (vM 34 33) 7,
 vD (vT 34 35 (.mv (.s 4))) 15,
 vD (vT 34 36 (.mv (.s 0))) 15,
 vD (vT 34 37 (.mv (.s 1))) 15,
 vD (vT 34 38 (.ias 2 (.s 36) (.s 37))) 111,
 vD (vT 34 39 (.ld true 2 (.s 38))) 239,
 vD (vT 34 40 (.mv (.s 0))) 15,
 vD (vT 34 41 (.mv (.s 11))) 15,
 vD (vT 34 42 (.ias 2 (.s 40) (.s 41))) 1551,
 vD (vT 34 43 (.ld true 2 (.s 42))) 3599,
 ⟨⟨some (34, true), some 44, .inr (.val true (.s 35) [(.s 39), (.s 43)])⟩, some [], [], 8191, false⟩,
 vD (vT 34 45 (vc .lss 44 0)) 16383,
 vD (vT 34 46 (.not (.s 45))) 32767,
 vD (vP 47 (.pick (.s 34) (.s 46) (.c (.bool false)))) 65535])
 (.cond (.s 47) (.skip)
 (.exit 2)))
 (.block 3 (.region [vM 48 11,
 vP 49 (vc .add 48 1),
 vM 11 49]))
def k211l1 : Cd :=
  .seq (.seq (.draw [vD (vM 50 11) 0,
 vD (vM 51 12) 0,
 vD (vP 52 (vb .leq 50 51)) 3,
 vD (vM 53 52) 7,
 vD (vT 53 54 (.mv (.s 4))) 15,
 vD (vT 53 55 (.mv (.s 0))) 15,
 vD (vT 53 56 (.mv (.s 1))) 15,
 vD (vT 53 57 (.ias 2 (.s 55) (.s 56))) 111,
 vD (vT 53 58 (.ld true 2 (.s 57))) 239,
 vD (vT 53 59 (.mv (.s 0))) 15,
 vD (vT 53 60 (.mv (.s 12))) 15,
 vD (vT 53 61 (.ias 2 (.s 59) (.s 60))) 1551,
 vD (vT 53 62 (.ld true 2 (.s 61))) 3599,
 ⟨⟨some (53, true), some 63, .inr (.val true (.s 54) [(.s 58), (.s 62)])⟩, some [], [], 8191, false⟩,
 vD (vT 53 64 (vc .lss 63 0)) 16383,
 vD (vP 65 (.pick (.s 53) (.s 64) (.c (.bool false)))) 32767])
 (.cond (.s 65) (.skip)
 (.exit 4)))
 (.block 5 (.region [vM 66 12,
 vP 67 (vc .sub 66 1),
 vM 12 67]))
def k211l2 : Cd :=
  .block 1 (.seq (.block 2 (.loop k211l0))
 (.seq (.block 4 (.loop k211l1))
 (.seq (.seq (.region [vM 68 11,
 vM 69 12,
 vP 70 (vb .gtr 68 69)])
 (.cond (.s 70) (.exit 0)
 (.skip)))
 (.seq (.draw [vD (vM 71 0) 0,
 vD (vM 72 11) 0,
 vD (vM 73 0) 0,
 vD (vM 74 12) 0,
 vD (vM 75 0) 0,
 vD (vM 76 12) 0,
 vD (vI 77 2 75 76) 48,
 vD (vP 78 (.ld true 2 (.s 77))) 112,
 vD (vM 79 0) 0,
 vD (vM 80 11) 0,
 vD (vI 81 2 79 80) 768,
 vD (vP 82 (.ld true 2 (.s 81))) 1792,
 vD (vI 83 2 71 72) 4083,
 ⟨⟨none, none, .inl (.st 2 (.s 83) (.s 78))⟩, (some [.at 0]), [], 8179, false⟩,
 vD (vI 84 2 73 74) 16383,
 ⟨⟨none, none, .inl (.st 2 (.s 84) (.s 82))⟩, (some [.at 0]), [], 32767, false⟩])
 (.seq (.region [vM 85 11,
 vP 86 (vc .add 85 1),
 vM 11 86])
 (.region [vM 87 12,
 vP 88 (vc .sub 87 1),
 vM 12 88]))))))
def k211 : Cd :=
  .seq (.region [vP 10 (.mv (vi 0))])
 (.seq (.draw [vD (vM 13 0) 0,
 vD (vM 14 1) 0,
 vD (vM 15 0) 0,
 vD (vM 16 3) 0,
 vD (vM 17 0) 0,
 vD (vM 18 3) 0,
 vD (vI 19 2 17 18) 48,
 vD (vP 20 (.ld true 2 (.s 19))) 112,
 vD (vM 21 0) 0,
 vD (vM 22 1) 0,
 vD (vI 23 2 21 22) 768,
 vD (vP 24 (.ld true 2 (.s 23))) 1792,
 vD (vI 25 2 13 14) 4083,
 ⟨⟨none, none, .inl (.st 2 (.s 25) (.s 20))⟩, (some [.at 0]), [], 8179, false⟩,
 vD (vI 26 2 15 16) 16383,
 ⟨⟨none, none, .inl (.st 2 (.s 26) (.s 24))⟩, (some [.at 0]), [], 32767, false⟩])
 (.seq (.region [vM 27 1,
 vP 28 (vc .add 27 1),
 vM 29 2,
 vP 30 (vc .sub 29 1),
 vM 11 28,
 vM 12 30])
 (.seq (.block 0 (.loop k211l2))
 (.seq (.region [vM 89 11,
 vM 10 89])
 (.ret)))))
def k212l0 : Cd :=
  .seq (.seq (.draw [vD (vM 32 12) 0,
 vD (vM 33 13) 0,
 vD (vP 34 (vb .leq 32 33)) 3,
 vD (vM 35 34) 7,
 vD (vT 35 36 (.mv (.s 4))) 15,
 vD (vT 35 37 (.mv (.s 0))) 15,
 vD (vT 35 38 (.mv (.s 12))) 15,
 vD (vT 35 39 (.ias 2 (.s 37) (.s 38))) 111,
 vD (vT 35 40 (.ld true 2 (.s 39))) 239,
 vD (vT 35 41 (.mv (.s 0))) 15,
 vD (vT 35 42 (.mv (.s 1))) 15,
 vD (vT 35 43 (.ias 2 (.s 41) (.s 42))) 1551,
 vD (vT 35 44 (.ld true 2 (.s 43))) 3599,
 ⟨⟨some (35, true), some 45, .inr (.val true (.s 36) [(.s 40), (.s 44)])⟩, some [], [], 8191, false⟩,
 vD (vT 35 46 (vc .lss 45 0)) 16383,
 vD (vP 47 (.pick (.s 35) (.s 46) (.c (.bool false)))) 32767])
 (.cond (.s 47) (.skip)
 (.exit 0)))
 (.block 1 (.region [vM 48 12,
 vP 49 (vc .add 48 1),
 vM 12 49]))
def k212l1 : Cd :=
  .seq (.seq (.draw [vD (vM 50 12) 0,
 vD (vM 51 13) 0,
 vD (vP 52 (vb .leq 50 51)) 3,
 vD (vM 53 52) 7,
 vD (vT 53 54 (.mv (.s 4))) 15,
 vD (vT 53 55 (.mv (.s 0))) 15,
 vD (vT 53 56 (.mv (.s 13))) 15,
 vD (vT 53 57 (.ias 2 (.s 55) (.s 56))) 111,
 vD (vT 53 58 (.ld true 2 (.s 57))) 239,
 vD (vT 53 59 (.mv (.s 0))) 15,
 vD (vT 53 60 (.mv (.s 1))) 15,
 vD (vT 53 61 (.ias 2 (.s 59) (.s 60))) 1551,
 vD (vT 53 62 (.ld true 2 (.s 61))) 3599,
 ⟨⟨some (53, true), some 63, .inr (.val true (.s 54) [(.s 58), (.s 62)])⟩, some [], [], 8191, false⟩,
 vD (vT 53 64 (vc .lss 63 0)) 16383,
 vD (vT 53 65 (.not (.s 64))) 32767,
 vD (vP 66 (.pick (.s 53) (.s 65) (.c (.bool false)))) 65535])
 (.cond (.s 66) (.skip)
 (.exit 2)))
 (.block 3 (.region [vM 67 13,
 vP 68 (vc .sub 67 1),
 vM 13 68]))
def k212l2 : Cd :=
  .seq (.seq (.draw [vD (vM 105 12) 0,
 vD (vM 106 13) 0,
 vD (vP 107 (vb .leq 105 106)) 3,
 vD (vM 108 107) 7,
 vD (vT 108 109 (.mv (.s 4))) 15,
 vD (vT 108 110 (.mv (.s 0))) 15,
 vD (vT 108 111 (.mv (.s 12))) 15,
 vD (vT 108 112 (.ias 2 (.s 110) (.s 111))) 111,
 vD (vT 108 113 (.ld true 2 (.s 112))) 239,
 vD (vT 108 114 (.mv (.s 0))) 15,
 vD (vT 108 115 (.mv (.s 1))) 15,
 vD (vT 108 116 (.ias 2 (.s 114) (.s 115))) 1551,
 vD (vT 108 117 (.ld true 2 (.s 116))) 3599,
 ⟨⟨some (108, true), some 118, .inr (.val true (.s 109) [(.s 113), (.s 117)])⟩, some [], [], 8191, false⟩,
 vD (vT 108 119 (vc .lss 118 0)) 16383,
 vD (vP 120 (.pick (.s 108) (.s 119) (.c (.bool false)))) 32767])
 (.cond (.s 120) (.skip)
 (.exit 6)))
 (.block 7 (.region [vM 121 12,
 vP 122 (vc .add 121 1),
 vM 12 122]))
def k212l3 : Cd :=
  .seq (.seq (.draw [vD (vM 123 12) 0,
 vD (vM 124 13) 0,
 vD (vP 125 (vb .leq 123 124)) 3,
 vD (vM 126 125) 7,
 vD (vT 126 127 (.mv (.s 4))) 15,
 vD (vT 126 128 (.mv (.s 0))) 15,
 vD (vT 126 129 (.mv (.s 13))) 15,
 vD (vT 126 130 (.ias 2 (.s 128) (.s 129))) 111,
 vD (vT 126 131 (.ld true 2 (.s 130))) 239,
 vD (vT 126 132 (.mv (.s 0))) 15,
 vD (vT 126 133 (.mv (.s 1))) 15,
 vD (vT 126 134 (.ias 2 (.s 132) (.s 133))) 1551,
 vD (vT 126 135 (.ld true 2 (.s 134))) 3599,
 ⟨⟨some (126, true), some 136, .inr (.val true (.s 127) [(.s 131), (.s 135)])⟩, some [], [], 8191, false⟩,
 vD (vT 126 137 (vc .lss 136 0)) 16383,
 vD (vT 126 138 (.not (.s 137))) 32767,
 vD (vP 139 (.pick (.s 126) (.s 138) (.c (.bool false)))) 65535])
 (.cond (.s 139) (.skip)
 (.exit 8)))
 (.block 9 (.region [vM 140 13,
 vP 141 (vc .sub 140 1),
 vM 13 141]))
def k212l4 : Cd :=
  .block 5 (.seq (.block 6 (.loop k212l2))
 (.seq (.block 8 (.loop k212l3))
 (.seq (.seq (.region [vM 142 12,
 vM 143 13,
 vP 144 (vb .gtr 142 143)])
 (.cond (.s 144) (.exit 4)
 (.skip)))
 (.seq (.draw [vD (vM 145 0) 0,
 vD (vM 146 12) 0,
 vD (vM 147 0) 0,
 vD (vM 148 13) 0,
 vD (vM 149 0) 0,
 vD (vM 150 13) 0,
 vD (vI 151 2 149 150) 48,
 vD (vP 152 (.ld true 2 (.s 151))) 112,
 vD (vM 153 0) 0,
 vD (vM 154 12) 0,
 vD (vI 155 2 153 154) 768,
 vD (vP 156 (.ld true 2 (.s 155))) 1792,
 vD (vI 157 2 145 146) 4083,
 ⟨⟨none, none, .inl (.st 2 (.s 157) (.s 152))⟩, (some [.at 0]), [], 8179, false⟩,
 vD (vI 158 2 147 148) 16383,
 ⟨⟨none, none, .inl (.st 2 (.s 158) (.s 156))⟩, (some [.at 0]), [], 32767, false⟩])
 (.seq (.region [vM 159 12,
 vP 160 (vc .add 159 1),
 vM 12 160])
 (.region [vM 161 13,
 vP 162 (vc .sub 161 1),
 vM 13 162]))))))
def k212 : Cd :=
  .seq (.region [vP 10 (.mv (vi 0)),
 vP 11 (.mv (.c (.bool false)))])
 (.seq (.draw [vD (vM 14 0) 0,
 vD (vM 15 1) 0,
 vD (vM 16 0) 0,
 vD (vM 17 3) 0,
 vD (vM 18 0) 0,
 vD (vM 19 3) 0,
 vD (vI 20 2 18 19) 48,
 vD (vP 21 (.ld true 2 (.s 20))) 112,
 vD (vM 22 0) 0,
 vD (vM 23 1) 0,
 vD (vI 24 2 22 23) 768,
 vD (vP 25 (.ld true 2 (.s 24))) 1792,
 vD (vI 26 2 14 15) 4083,
 ⟨⟨none, none, .inl (.st 2 (.s 26) (.s 21))⟩, (some [.at 0]), [], 8179, false⟩,
 vD (vI 27 2 16 17) 16383,
 ⟨⟨none, none, .inl (.st 2 (.s 27) (.s 25))⟩, (some [.at 0]), [], 32767, false⟩])
 (.seq (.region [vM 28 1,
 vP 29 (vc .add 28 1),
 vM 30 2,
 vP 31 (vc .sub 30 1),
 vM 12 29,
 vM 13 31])
 (.seq (.block 0 (.loop k212l0))
 (.seq (.block 2 (.loop k212l1))
 (.seq (.seq (.region [vM 69 12,
 vM 70 13,
 vP 71 (vb .gtr 69 70)])
 (.cond (.s 71) (.seq (.draw [vD (vM 72 0) 0,
 vD (vM 73 13) 0,
 vD (vM 74 0) 0,
 vD (vM 75 1) 0,
 vD (vM 76 0) 0,
 vD (vM 77 1) 0,
 vD (vI 78 2 76 77) 48,
 vD (vP 79 (.ld true 2 (.s 78))) 112,
 vD (vM 80 0) 0,
 vD (vM 81 13) 0,
 vD (vI 82 2 80 81) 768,
 vD (vP 83 (.ld true 2 (.s 82))) 1792,
 vD (vI 84 2 72 73) 4083,
 ⟨⟨none, none, .inl (.st 2 (.s 84) (.s 79))⟩, (some [.at 0]), [], 8179, false⟩,
 vD (vI 85 2 74 75) 16383,
 ⟨⟨none, none, .inl (.st 2 (.s 85) (.s 83))⟩, (some [.at 0]), [], 32767, false⟩])
 (.seq (.region [vM 86 13,
 vM 10 86,
 vP 11 (.mv (.c (.bool true)))])
 (.ret)))
 (.skip)))
 (.seq (.draw [vD (vM 87 0) 0,
 vD (vM 88 12) 0,
 vD (vM 89 0) 0,
 vD (vM 90 13) 0,
 vD (vM 91 0) 0,
 vD (vM 92 13) 0,
 vD (vI 93 2 91 92) 48,
 vD (vP 94 (.ld true 2 (.s 93))) 112,
 vD (vM 95 0) 0,
 vD (vM 96 12) 0,
 vD (vI 97 2 95 96) 768,
 vD (vP 98 (.ld true 2 (.s 97))) 1792,
 vD (vI 99 2 87 88) 4083,
 ⟨⟨none, none, .inl (.st 2 (.s 99) (.s 94))⟩, (some [.at 0]), [], 8179, false⟩,
 vD (vI 100 2 89 90) 16383,
 ⟨⟨none, none, .inl (.st 2 (.s 100) (.s 98))⟩, (some [.at 0]), [], 32767, false⟩])
 (.seq (.region [vM 101 12,
 vP 102 (vc .add 101 1),
 vM 12 102])
 (.seq (.region [vM 103 13,
 vP 104 (vc .sub 103 1),
 vM 13 104])
 (.seq (.block 4 (.loop k212l4))
 (.seq (.draw [vD (vM 163 0) 0,
 vD (vM 164 13) 0,
 vD (vM 165 0) 0,
 vD (vM 166 1) 0,
 vD (vM 167 0) 0,
 vD (vM 168 1) 0,
 vD (vI 169 2 167 168) 48,
 vD (vP 170 (.ld true 2 (.s 169))) 112,
 vD (vM 171 0) 0,
 vD (vM 172 13) 0,
 vD (vI 173 2 171 172) 768,
 vD (vP 174 (.ld true 2 (.s 173))) 1792,
 vD (vI 175 2 163 164) 4083,
 ⟨⟨none, none, .inl (.st 2 (.s 175) (.s 170))⟩, (some [.at 0]), [], 8179, false⟩,
 vD (vI 176 2 165 166) 16383,
 ⟨⟨none, none, .inl (.st 2 (.s 176) (.s 174))⟩, (some [.at 0]), [], 32767, false⟩])
 (.seq (.region [vM 177 13,
 vM 10 177,
 vP 11 (.mv (.c (.bool false)))])
 (.ret))))))))))))
def k213 : Cd :=
  .seq (.region [vP 2 (.mv (vi 0))])
 (.seq (.seq (.region [vM 3 0,
 vP 4 (.bin .geq (.s 3) (.c (.int .u32 65536)))])
 (.cond (.s 4) (.seq (.region [vM 5 0,
 vP 6 (.bin .shr (.s 5) (.c (.int .u64 16))),
 vM 0 6])
 (.region [vP 2 (.mv (vi 16))]))
 (.skip)))
 (.seq (.seq (.region [vM 7 0,
 vP 8 (.bin .geq (.s 7) (.c (.int .u32 256)))])
 (.cond (.s 8) (.seq (.region [vM 9 0,
 vP 10 (.bin .shr (.s 9) (.c (.int .u64 8))),
 vM 0 10])
 (.region [vM 11 2,
 vP 12 (vc .add 11 8),
 vM 2 12]))
 (.skip)))
 (.seq (.region [vM 13 2,
 vM 14 0,
 vP 15 (.cvi .u8 (.s 14)),
 ⟨none, some 16, .inl (.ixs (.c (.string ⟨#[0, 1, 2, 2, 3, 3, 3, 3, 4, 4, 4, 4, 4, 4, 4, 4, 5, 5, 5, 5, 5, 5, 5, 5, 5, 5, 5, 5, 5, 5, 5, 5, 6, 6, 6, 6, 6, 6, 6, 6, 6, 6, 6, 6, 6, 6, 6, 6, 6, 6, 6, 6, 6, 6, 6, 6, 6, 6, 6, 6, 6, 6, 6, 6, 7, 7, 7, 7, 7, 7, 7, 7, 7, 7, 7, 7, 7, 7, 7, 7, 7, 7, 7, 7, 7, 7, 7, 7, 7, 7, 7, 7, 7, 7, 7, 7, 7, 7, 7, 7, 7, 7, 7, 7, 7, 7, 7, 7, 7, 7, 7, 7, 7, 7, 7, 7, 7, 7, 7, 7, 7, 7, 7, 7, 7, 7, 7, 7, 8, 8, 8, 8, 8, 8, 8, 8, 8, 8, 8, 8, 8, 8, 8, 8, 8, 8, 8, 8, 8, 8, 8, 8, 8, 8, 8, 8, 8, 8, 8, 8, 8, 8, 8, 8, 8, 8, 8, 8, 8, 8, 8, 8, 8, 8, 8, 8, 8, 8, 8, 8, 8, 8, 8, 8, 8, 8, 8, 8, 8, 8, 8, 8, 8, 8, 8, 8, 8, 8, 8, 8, 8, 8, 8, 8, 8, 8, 8, 8, 8, 8, 8, 8, 8, 8, 8, 8, 8, 8, 8, 8, 8, 8, 8, 8, 8, 8, 8, 8, 8, 8, 8, 8, 8, 8, 8, 8, 8, 8, 8, 8, 8, 8, 8, 8, 8, 8, 8, 8, 8, 8, 8, 8, 8, 8, 8, 8]⟩)) (.s 15))⟩,
 vP 17 (.cvi .i64 (.s 16)),
 vP 18 (vb .add 13 17),
 vM 2 18])
 (.ret))))
def k214 : Cd :=
  .seq (.region [vP 2 (.mv (vi 0))])
 (.seq (.seq (.region [vM 3 0,
 vP 4 (.bin .geq (.s 3) (.c (.int .u64 4294967296)))])
 (.cond (.s 4) (.seq (.region [vM 5 0,
 vP 6 (.bin .shr (.s 5) (.c (.int .u64 32))),
 vM 0 6])
 (.region [vP 2 (.mv (vi 32))]))
 (.skip)))
 (.seq (.seq (.region [vM 7 0,
 vP 8 (.bin .geq (.s 7) (.c (.int .u64 65536)))])
 (.cond (.s 8) (.seq (.region [vM 9 0,
 vP 10 (.bin .shr (.s 9) (.c (.int .u64 16))),
 vM 0 10])
 (.region [vM 11 2,
 vP 12 (vc .add 11 16),
 vM 2 12]))
 (.skip)))
 (.seq (.seq (.region [vM 13 0,
 vP 14 (.bin .geq (.s 13) (.c (.int .u64 256)))])
 (.cond (.s 14) (.seq (.region [vM 15 0,
 vP 16 (.bin .shr (.s 15) (.c (.int .u64 8))),
 vM 0 16])
 (.region [vM 17 2,
 vP 18 (vc .add 17 8),
 vM 2 18]))
 (.skip)))
 (.seq (.region [vM 19 2,
 vM 20 0,
 vP 21 (.cvi .u8 (.s 20)),
 ⟨none, some 22, .inl (.ixs (.c (.string ⟨#[0, 1, 2, 2, 3, 3, 3, 3, 4, 4, 4, 4, 4, 4, 4, 4, 5, 5, 5, 5, 5, 5, 5, 5, 5, 5, 5, 5, 5, 5, 5, 5, 6, 6, 6, 6, 6, 6, 6, 6, 6, 6, 6, 6, 6, 6, 6, 6, 6, 6, 6, 6, 6, 6, 6, 6, 6, 6, 6, 6, 6, 6, 6, 6, 7, 7, 7, 7, 7, 7, 7, 7, 7, 7, 7, 7, 7, 7, 7, 7, 7, 7, 7, 7, 7, 7, 7, 7, 7, 7, 7, 7, 7, 7, 7, 7, 7, 7, 7, 7, 7, 7, 7, 7, 7, 7, 7, 7, 7, 7, 7, 7, 7, 7, 7, 7, 7, 7, 7, 7, 7, 7, 7, 7, 7, 7, 7, 7, 8, 8, 8, 8, 8, 8, 8, 8, 8, 8, 8, 8, 8, 8, 8, 8, 8, 8, 8, 8, 8, 8, 8, 8, 8, 8, 8, 8, 8, 8, 8, 8, 8, 8, 8, 8, 8, 8, 8, 8, 8, 8, 8, 8, 8, 8, 8, 8, 8, 8, 8, 8, 8, 8, 8, 8, 8, 8, 8, 8, 8, 8, 8, 8, 8, 8, 8, 8, 8, 8, 8, 8, 8, 8, 8, 8, 8, 8, 8, 8, 8, 8, 8, 8, 8, 8, 8, 8, 8, 8, 8, 8, 8, 8, 8, 8, 8, 8, 8, 8, 8, 8, 8, 8, 8, 8, 8, 8, 8, 8, 8, 8, 8, 8, 8, 8, 8, 8, 8, 8, 8, 8, 8, 8, 8, 8, 8, 8]⟩)) (.s 21))⟩,
 vP 23 (.cvi .i64 (.s 22)),
 vP 24 (vb .add 19 23),
 vM 2 24])
 (.ret)))))
def k215l0 : Cd :=
  .seq (.seq (.region [vM 34 8,
 vM 35 7,
 vP 36 (.len (.s 35)),
 vP 37 (vb .lss 34 36)])
 (.cond (.s 37) (.skip)
 (.exit 0)))
 (.block 1 (.draw [vD (vM 38 8) 0,
 vD (vM 39 7) 0,
 vD (vM 40 8) 0,
 vD (vP 41 (.slc 1 (.s 39) (some (.s 40)) none none)) 6,
 vD (vM 42 7) 0,
 vD (vM 43 8) 0,
 vD (vP 44 (.slc 1 (.s 42) none (some (.s 43)) none)) 48,
 ⟨vP 45 (.cpy 1 (.s 41) (.s 44)), (some [.at 7]), [], 126, false⟩,
 vD (vP 46 (vb .add 38 45)) 255,
 vD (vM 8 46) 511]))
def k215 : Cd :=
  .seq (.region [vP 4 (.mv (.c (.slice none 0 0)))])
 (.seq (.seq (.region [vM 9 1,
 vP 10 (vc .lss 9 0)])
 (.cond (.s 10) (.region [⟨none, some 11, .inl (.mki 9 (.c (.string ⟨#[99, 97, 110, 110, 111, 116, 32, 98, 101, 32, 110, 101, 103, 97, 116, 105, 118, 101]⟩)))⟩,
 ⟨none, none, .inr (.pan (.s 11))⟩])
 (.skip)))
 (.seq (.region [vM 13 0,
 vP 14 (.len (.s 13)),
 vP 15 (.cvi .u64 (.s 14)),
 vM 16 1,
 vP 17 (.cvi .u64 (.s 16)),
 vN 18 226 [(.s 15), (.s 17)],
 vM 12 18,
 vP 19 (.ex (.s 12) 0),
 vP 20 (.ex (.s 12) 1),
 vM 5 19,
 vM 6 20])
 (.seq (.seq (.region [vM 21 5,
 vP 22 (.bin .gtr (.s 21) (.c (.int .u64 0))),
 vM 23 22,
 vU 23 24 (.mv (.s 6)),
 vU 23 25 (.bin .gtr (.s 24) (.c (.int .u64 9223372036854775807))),
 vP 26 (.pick (.s 23) (.c (.bool true)) (.s 25))])
 (.cond (.s 26) (.region [⟨none, some 27, .inl (.mki 9 (.c (.string ⟨#[116, 104, 101, 32, 114, 101, 115, 117, 108, 116, 32, 111, 102, 32, 40, 108, 101, 110, 40, 120, 41, 32, 42, 32, 99, 111, 117, 110, 116, 41, 32, 111, 118, 101, 114, 102, 108, 111, 119, 115]⟩)))⟩,
 ⟨none, none, .inr (.pan (.s 27))⟩])
 (.skip)))
 (.seq (.region [vM 28 6,
 vP 29 (.cvi .i64 (.s 28)),
 vP 30 (.mks 3 1 8 [(.int .i64 0)] (.s 29) (.s 29)),
 vM 7 30])
 (.seq (.region [vM 31 7,
 vM 32 0,
 vP 33 (.cpy 1 (.s 31) (.s 32)),
 vM 8 33])
 (.seq (.block 0 (.loop k215l0))
 (.seq (.region [vM 47 7,
 vM 4 47])
 (.ret))))))))
def k216l0 : Cd :=
  .seq (.seq (.region [vM 13 7,
 vM 14 8,
 vP 15 (vb .lss 13 14)])
 (.cond (.s 15) (.skip)
 (.exit 0)))
 (.block 1 (.seq (.region [vM 16 7,
 vM 17 8,
 vP 18 (vb .add 16 17),
 vP 19 (.cvi .u64 (.s 18)),
 vP 20 (.bin .shr (.s 19) (.c (.int .u64 1))),
 vP 21 (.cvi .i64 (.s 20)),
 vM 9 21])
 (.seq (.region [vM 22 0,
 vM 23 9,
 vI 24 1 22 23,
 vL 25 1 24,
 vM 26 1,
 vN 27 227 [(.s 25), (.s 26)]])
 (.cond (.s 27) (.region [vM 28 9,
 vP 29 (vc .add 28 1),
 vM 7 29])
 (.region [vM 30 9,
 vM 8 30])))))
def k216 : Cd :=
  .seq (.region [vP 4 (.mv (vi 0)),
 vP 5 (.mv (.c (.bool false)))])
 (.seq (.region [vM 10 0,
 vP 11 (.len (.s 10)),
 vM 6 11])
 (.seq (.region [vM 12 6,
 vP 7 (.mv (vi 0)),
 vM 8 12])
 (.seq (.block 0 (.loop k216l0))
 (.seq (.region [vM 31 7,
 vM 32 7,
 vM 33 6,
 vP 34 (vb .lss 32 33),
 vM 35 34,
 vT 35 36 (.mv (.s 0)),
 vT 35 37 (.mv (.s 7)),
 vT 35 38 (.ias 1 (.s 36) (.s 37)),
 vT 35 39 (.ld false 1 (.s 38)),
 vT 35 40 (.mv (.s 1)),
 vT 35 41 (vb .eql 39 40),
 vT 35 42 (.mv (.s 41)),
 vU 42 43 (.mv (.s 0)),
 vU 42 44 (.mv (.s 7)),
 vU 42 45 (.ias 1 (.s 43) (.s 44)),
 vU 42 46 (.ld false 1 (.s 45)),
 ⟨some (42, false), some 47, .inr (.fn 228 [(.s 46)])⟩,
 vU 42 48 (.mv (.s 47)),
 vT 48 49 (.mv (.s 1)),
 ⟨some (48, true), some 50, .inr (.fn 228 [(.s 49)])⟩,
 vU 42 51 (.pick (.s 48) (.s 50) (.c (.bool false))),
 vT 35 52 (.pick (.s 42) (.c (.bool true)) (.s 51)),
 vP 53 (.pick (.s 35) (.s 52) (.c (.bool false))),
 vM 4 31,
 vM 5 53])
 (.ret)))))
def k219 : Cd :=
  .seq (.region [vM 3 0,
 vP 4 (.len (.s 3)),
 vM 2 4])
 (.region [vM 5 0,
 vM 6 2,
 vM 7 2,
 vP 8 (.cvi .u64 (.s 7)),
 vN 9 182 [(.s 8)],
 vN 10 229 [(.s 5), (vi 0), (.s 6), (.s 9)]])
def k220l0 : Cd :=
  .seq (.seq (.region [vM 29 5,
 vM 30 4,
 vP 31 (.len (.s 30)),
 vP 32 (vb .lss 29 31)])
 (.cond (.s 32) (.skip)
 (.exit 2)))
 (.seq (.block 3 (.seq (.draw [vD (vM 35 4) 0,
 vD (vM 36 5) 0,
 vD (vI 37 1 35 36) 3,
 vD (vL 38 1 37) 7,
 vD (vM 39 4) 0,
 vD (vM 40 5) 0,
 vD (vP 41 (vc .sub 40 1)) 32,
 vD (vI 42 1 39 41) 112,
 vD (vL 43 1 42) 240,
 vD (vP 44 (vb .neq 38 43)) 511])
 (.cond (.s 44) (.seq (.region [vM 45 0,
 vM 46 3,
 vM 47 4,
 vM 48 5,
 vI 49 1 47 48,
 vL 50 1 49,
 vI 51 1 45 46,
 ⟨none, none, .inl (.st 1 (.s 51) (.s 50))⟩])
 (.region [vM 52 3,
 vP 53 (vc .add 52 1),
 vM 3 53]))
 (.skip))))
 (.region [vM 33 5,
 vP 34 (vc .add 33 1),
 vM 5 34]))
def k220l1 : Cd :=
  .seq (.seq (.region [vM 10 3,
 vM 11 0,
 vP 12 (.len (.s 11)),
 vP 13 (vb .lss 10 12)])
 (.cond (.s 13) (.skip)
 (.exit 0)))
 (.seq (.block 1 (.seq (.draw [vD (vM 16 0) 0,
 vD (vM 17 3) 0,
 vD (vI 18 1 16 17) 3,
 vD (vL 19 1 18) 7,
 vD (vM 20 0) 0,
 vD (vM 21 3) 0,
 vD (vP 22 (vc .sub 21 1)) 32,
 vD (vI 23 1 20 22) 112,
 vD (vL 24 1 23) 240,
 vD (vP 25 (vb .eql 19 24)) 511])
 (.cond (.s 25) (.seq (.region [vM 26 0,
 vM 27 3,
 vP 28 (.slc 1 (.s 26) (some (.s 27)) none none),
 vM 4 28])
 (.seq (.seq (.region [vP 5 (.mv (vi 1))])
 (.block 2 (.loop k220l0)))
 (.seq (.region [vM 54 0,
 vM 55 3,
 vP 56 (.slc 1 (.s 54) (some (.s 55)) none none),
 ⟨none, none, .inl (.clr [(.int .i64 0)] (.s 56))⟩])
 (.seq (.region [vM 57 0,
 vM 58 3,
 vP 59 (.slc 1 (.s 57) none (some (.s 58)) none),
 vM 2 59])
 (.ret)))))
 (.skip))))
 (.region [vM 14 3,
 vP 15 (vc .add 14 1),
 vM 3 15]))
def k220 : Cd :=
  .seq (.region [vP 2 (.mv (.c (.slice none 0 0)))])
 (.seq (.seq (.region [vM 6 0,
 vP 7 (.len (.s 6)),
 vP 8 (vc .lss 7 2)])
 (.cond (.s 8) (.seq (.region [vM 9 0,
 vM 2 9])
 (.ret))
 (.skip)))
 (.seq (.seq (.region [vP 3 (.mv (vi 1))])
 (.block 0 (.loop k220l1)))
 (.seq (.region [vM 60 0,
 vM 2 60])
 (.ret))))
def k221l0 : Cd :=
  .block 1 (.seq (.region [vM 13 10,
 vP 14 (.bin .mul (vi 2) (.s 13)),
 vP 15 (vc .add 14 1),
 vM 11 15])
 (.seq (.seq (.region [vM 16 11,
 vM 17 2,
 vP 18 (vb .geq 16 17)])
 (.cond (.s 18) (.exit 0)
 (.skip)))
 (.seq (.seq (.draw [vD (vM 19 11) 0,
 vD (vP 20 (vc .add 19 1)) 1,
 vD (vM 21 2) 0,
 vD (vP 22 (vb .lss 20 21)) 7,
 vD (vM 23 22) 15,
 vD (vT 23 24 (.mv (.s 4))) 31,
 vD (vT 23 25 (.mv (.s 0))) 31,
 vD (vT 23 26 (.mv (.s 3))) 31,
 vD (vT 23 27 (.mv (.s 11))) 31,
 vD (vT 23 28 (vb .add 26 27)) 415,
 vD (vT 23 29 (.ias 2 (.s 25) (.s 28))) 991,
 vD (vT 23 30 (.ld true 2 (.s 29))) 2015,
 vD (vT 23 31 (.mv (.s 0))) 31,
 vD (vT 23 32 (.mv (.s 3))) 31,
 vD (vT 23 33 (.mv (.s 11))) 31,
 vD (vT 23 34 (vb .add 32 33)) 24607,
 vD (vT 23 35 (vc .add 34 1)) 57375,
 vD (vT 23 36 (.ias 2 (.s 31) (.s 35))) 127007,
 vD (vT 23 37 (.ld true 2 (.s 36))) 258079,
 ⟨⟨some (23, true), some 38, .inr (.val true (.s 24) [(.s 30), (.s 37)])⟩, some [], [], 524287, false⟩,
 vD (vT 23 39 (vc .lss 38 0)) 1048575,
 vD (vP 40 (.pick (.s 23) (.s 39) (.c (.bool false)))) 2097151])
 (.cond (.s 40) (.region [vM 41 11,
 vP 42 (vc .add 41 1),
 vM 11 42])
 (.skip)))
 (.seq (.seq (.draw [vD (vM 43 4) 0,
 vD (vM 44 0) 0,
 vD (vM 45 3) 0,
 vD (vM 46 10) 0,
 vD (vP 47 (vb .add 45 46)) 12,
 vD (vI 48 2 44 47) 30,
 vD (vP 49 (.ld true 2 (.s 48))) 62,
 vD (vM 50 0) 0,
 vD (vM 51 3) 0,
 vD (vM 52 11) 0,
 vD (vP 53 (vb .add 51 52)) 768,
 vD (vI 54 2 50 53) 1920,
 vD (vP 55 (.ld true 2 (.s 54))) 3968,
 ⟨⟨none, some 56, .inr (.val false (.s 43) [(.s 49), (.s 55)])⟩, some [], [], 8191, false⟩,
 vD (vP 57 (vc .lss 56 0)) 16383,
 vD (vP 58 (.not (.s 57))) 32767])
 (.cond (.s 58) (.ret)
 (.skip)))
 (.seq (.draw [vD (vM 59 0) 0,
 vD (vM 60 3) 0,
 vD (vM 61 10) 0,
 vD (vP 62 (vb .add 60 61)) 6,
 vD (vM 63 0) 0,
 vD (vM 64 3) 0,
 vD (vM 65 11) 0,
 vD (vP 66 (vb .add 64 65)) 96,
 vD (vM 67 0) 0,
 vD (vM 68 3) 0,
 vD (vM 69 11) 0,
 vD (vP 70 (vb .add 68 69)) 1536,
 vD (vI 71 2 67 70) 3840,
 vD (vP 72 (.ld true 2 (.s 71))) 7936,
 vD (vM 73 0) 0,
 vD (vM 74 3) 0,
 vD (vM 75 10) 0,
 vD (vP 76 (vb .add 74 75)) 98304,
 vD (vI 77 2 73 76) 245760,
 vD (vP 78 (.ld true 2 (.s 77))) 507904,
 vD (vI 79 2 59 62) 1048335,
 ⟨⟨none, none, .inl (.st 2 (.s 79) (.s 72))⟩, (some [.at 0]), [], 2096911, false⟩,
 vD (vI 80 2 63 66) 4194303,
 ⟨⟨none, none, .inl (.st 2 (.s 80) (.s 78))⟩, (some [.at 0]), [], 8388607, false⟩])
 (.region [vM 81 11,
 vM 10 81]))))))
def k221 : Cd :=
  .seq (.region [vM 12 1,
 vM 10 12])
 (.block 0 (.loop k221l0))
def k222 : Cd :=
  .seq (.region [vP 2 (.mv (.c (.int .u64 0)))])
 (.seq (.region [vM 3 0,
 vP 4 (.cvi .u64 (.s 3)),
 vN 5 182 [(.s 4)],
 vP 6 (.bin .shl (.c (.int .u64 1)) (.s 5)),
 vM 2 6])
 (.ret))
def k223 : Cd :=
  .seq (.region [vP 2 (.mv (.c (.int .u64 0)))])
 (.seq (.draw [vD (vM 3 0) 0,
 vD (vP 4 (.nc (.s 3))) 1,
 vD (vL 5 1 4) 3,
 vD (vM 6 0) 0,
 vD (vP 7 (.nc (.s 6))) 8,
 vD (vL 8 1 7) 24,
 vD (vP 9 (.bin .shl (.s 8) (.c (.int .u64 13)))) 56,
 vD (vP 10 (vb .xor 5 9)) 127,
 vD (vP 11 (.nc (.s 3))) 255,
 ⟨⟨none, none, .inl (.st 1 (.s 11) (.s 10))⟩, (some [.at 0]), [], 511, false⟩])
 (.seq (.draw [vD (vM 12 0) 0,
 vD (vP 13 (.nc (.s 12))) 1,
 vD (vL 14 1 13) 3,
 vD (vM 15 0) 0,
 vD (vP 16 (.nc (.s 15))) 8,
 vD (vL 17 1 16) 24,
 vD (vP 18 (.bin .shr (.s 17) (.c (.int .u64 7)))) 56,
 vD (vP 19 (vb .xor 14 18)) 127,
 vD (vP 20 (.nc (.s 12))) 255,
 ⟨⟨none, none, .inl (.st 1 (.s 20) (.s 19))⟩, (some [.at 0]), [], 511, false⟩])
 (.seq (.draw [vD (vM 21 0) 0,
 vD (vP 22 (.nc (.s 21))) 1,
 vD (vL 23 1 22) 3,
 vD (vM 24 0) 0,
 vD (vP 25 (.nc (.s 24))) 8,
 vD (vL 26 1 25) 24,
 vD (vP 27 (.bin .shl (.s 26) (.c (.int .u64 17)))) 56,
 vD (vP 28 (vb .xor 23 27)) 127,
 vD (vP 29 (.nc (.s 21))) 255,
 ⟨⟨none, none, .inl (.st 1 (.s 29) (.s 28))⟩, (some [.at 0]), [], 511, false⟩])
 (.seq (.region [vM 30 0,
 vP 31 (.nc (.s 30)),
 vL 32 1 31,
 vM 2 32])
 (.ret)))))
def k224 : Cd :=
  .seq (.region [vP 8 (.mv (vi 0))])
 (.seq (.region [vM 9 0,
 vM 10 1,
 vP 11 (vc .sub 10 1),
 vM 12 1,
 vM 13 1,
 vP 14 (vc .add 13 1),
 vM 15 2,
 vM 16 3,
 vN 17 225 [(.s 9), (.s 11), (.s 12), (.s 14), (.s 15), (.s 16)],
 vM 8 17])
 (.ret))
def k225 : Cd :=
  .seq (.region [vP 12 (.mv (vi 0))])
 (.seq (.region [vM 14 0,
 vM 15 1,
 vM 16 2,
 vM 17 4,
 vM 18 5,
 vN 19 230 [(.s 14), (.s 15), (.s 16), (.s 17), (.s 18)],
 vM 13 19,
 vP 20 (.ex (.s 13) 0),
 vP 21 (.ex (.s 13) 1),
 vM 1 20,
 vM 2 21])
 (.seq (.region [vM 23 0,
 vM 24 2,
 vM 25 3,
 vM 26 4,
 vM 27 5,
 vN 28 230 [(.s 23), (.s 24), (.s 25), (.s 26), (.s 27)],
 vM 22 28,
 vP 29 (.ex (.s 22) 0),
 vP 30 (.ex (.s 22) 1),
 vM 2 29,
 vM 3 30])
 (.seq (.region [vM 32 0,
 vM 33 1,
 vM 34 2,
 vM 35 4,
 vM 36 5,
 vN 37 230 [(.s 32), (.s 33), (.s 34), (.s 35), (.s 36)],
 vM 31 37,
 vP 38 (.ex (.s 31) 0),
 vP 39 (.ex (.s 31) 1),
 vM 1 38,
 vM 2 39])
 (.seq (.region [vM 40 2,
 vM 12 40])
 (.ret)))))
def k226 : Cd :=
  .seq (.region [vP 4 (.mv (.c (.int .u64 0))),
 vP 5 (.mv (.c (.int .u64 0)))])
 (.seq (.cond (.c (.bool false)) (.seq (.region [vM 11 0,
 vP 12 (.cvi .u32 (.s 11)),
 vM 13 1,
 vP 14 (.cvi .u32 (.s 13)),
 vN 15 231 [(.s 12), (.s 14)],
 vM 10 15,
 vP 16 (.ex (.s 10) 0),
 vP 17 (.ex (.s 10) 1),
 vM 6 16,
 vM 7 17])
 (.seq (.region [vM 18 6,
 vP 19 (.cvi .u64 (.s 18)),
 vM 20 7,
 vP 21 (.cvi .u64 (.s 20)),
 vM 4 19,
 vM 5 21])
 (.ret)))
 (.skip))
 (.seq (.region [vM 23 0,
 vM 24 1,
 vN 25 232 [(.s 23), (.s 24)],
 vM 22 25,
 vP 26 (.ex (.s 22) 0),
 vP 27 (.ex (.s 22) 1),
 vM 8 26,
 vM 9 27])
 (.seq (.region [vM 28 8,
 vM 29 9,
 vM 4 28,
 vM 5 29])
 (.ret))))
def k227 : Cd :=
  .seq (.region [vP 4 (.mv (.c (.bool false)))])
 (.seq (.region [vM 5 0,
 vN 6 183 [(.s 5)],
 vM 7 6,
 vT 7 8 (.mv (.s 1)),
 ⟨some (7, true), some 9, .inr (.fn 183 [(.s 8)])⟩,
 vT 7 10 (.not (.s 9)),
 vP 11 (.pick (.s 7) (.s 10) (.c (.bool false))),
 vM 12 11,
 vU 12 13 (.mv (.s 0)),
 vU 12 14 (.mv (.s 1)),
 vU 12 15 (vb .lss 13 14),
 vP 16 (.pick (.s 12) (.c (.bool true)) (.s 15)),
 vM 4 16])
 (.ret))
def k228 : Cd :=
  .seq (.region [vP 2 (.mv (.c (.bool false)))])
 (.seq (.region [vM 3 0,
 vM 4 0,
 vP 5 (vb .neq 3 4),
 vM 2 5])
 (.ret))
def k229l0 : Cd :=
  .block 1 (.seq (.region [vM 19 2,
 vM 20 1,
 vP 21 (vb .sub 19 20),
 vM 10 21])
 (.seq (.seq (.region [vM 22 10,
 vP 23 (vc .leq 22 12)])
 (.cond (.s 23) (.seq (.region [vM 24 0,
 vM 25 1,
 vM 26 2,
 vN 27 233 [(.s 24), (.s 25), (.s 26)]])
 (.ret))
 (.skip)))
 (.seq (.seq (.region [vM 28 3,
 vP 29 (vc .eql 28 0)])
 (.cond (.s 29) (.seq (.region [vM 30 0,
 vM 31 1,
 vM 32 2,
 vN 33 234 [(.s 30), (.s 31), (.s 32)]])
 (.ret))
 (.skip)))
 (.seq (.seq (.region [vM 34 8,
 vP 35 (.not (.s 34))])
 (.cond (.s 35) (.seq (.region [vM 36 0,
 vM 37 1,
 vM 38 2,
 vN 39 235 [(.s 36), (.s 37), (.s 38)]])
 (.region [vM 40 3,
 vP 41 (vc .sub 40 1),
 vM 3 41]))
 (.skip)))
 (.seq (.region [vM 43 0,
 vM 44 1,
 vM 45 2,
 vN 46 236 [(.s 43), (.s 44), (.s 45)],
 vM 42 46,
 vP 47 (.ex (.s 42) 0),
 vP 48 (.ex (.s 42) 1),
 vM 11 47,
 vM 12 48])
 (.seq (.seq (.region [vM 49 12,
 vP 50 (vc .eql 49 2)])
 (.cond (.s 50) (.seq (.region [vM 51 0,
 vM 52 1,
 vM 53 2,
 vN 54 237 [(.s 51), (.s 52), (.s 53)]])
 (.seq (.region [vM 55 2,
 vP 56 (vc .sub 55 1),
 vM 57 11,
 vM 58 1,
 vP 59 (vb .sub 57 58),
 vP 60 (vb .sub 56 59),
 vM 11 60])
 (.region [vP 12 (.mv (vi 1))])))
 (.skip)))
 (.seq (.seq (.region [vM 61 8,
 vM 62 61,
 vT 62 63 (.mv (.s 9)),
 vP 64 (.pick (.s 62) (.s 63) (.c (.bool false))),
 vM 65 64,
 vT 65 66 (.mv (.s 12)),
 vT 65 67 (vc .eql 66 1),
 vP 68 (.pick (.s 65) (.s 67) (.c (.bool false)))])
 (.cond (.s 68) (.seq (.region [vM 69 0,
 vM 70 1,
 vM 71 2,
 vN 72 238 [(.s 69), (.s 70), (.s 71)]])
 (.cond (.s 72) (.ret)
 (.skip)))
 (.skip)))
 (.seq (.seq (.draw [vD (vM 73 1) 0,
 vD (vP 74 (vc .gtr 73 0)) 1,
 vD (vM 75 74) 3,
 vD (vT 75 76 (.mv (.s 0))) 7,
 vD (vT 75 77 (.mv (.s 1))) 7,
 vD (vT 75 78 (vc .sub 77 1)) 23,
 vD (vT 75 79 (.ias 1 (.s 76) (.s 78))) 63,
 vD (vT 75 80 (.ld false 1 (.s 79))) 127,
 vD (vT 75 81 (.mv (.s 0))) 7,
 vD (vT 75 82 (.mv (.s 11))) 7,
 vD (vT 75 83 (.ias 1 (.s 81) (.s 82))) 775,
 vD (vT 75 84 (.ld false 1 (.s 83))) 1799,
 ⟨⟨some (75, true), some 85, .inr (.fn 227 [(.s 80), (.s 84)])⟩, some [], [], 4095, false⟩,
 vD (vT 75 86 (.not (.s 85))) 8191,
 vD (vP 87 (.pick (.s 75) (.s 86) (.c (.bool false)))) 16383])
 (.cond (.s 87) (.seq (.region [vM 88 0,
 vM 89 1,
 vM 90 2,
 vM 91 11,
 vN 92 239 [(.s 88), (.s 89), (.s 90), (.s 91)],
 vM 13 92])
 (.seq (.region [vM 93 13,
 vM 1 93])
 (.exit 1)))
 (.skip)))
 (.seq (.region [vM 95 0,
 vM 96 1,
 vM 97 2,
 vM 98 11,
 vN 99 240 [(.s 95), (.s 96), (.s 97), (.s 98)],
 vM 94 99,
 vP 100 (.ex (.s 94) 0),
 vP 101 (.ex (.s 94) 1),
 vM 14 100,
 vM 15 101])
 (.seq (.region [vM 102 15,
 vM 9 102])
 (.seq (.region [vM 103 14,
 vM 104 1,
 vP 105 (vb .sub 103 104),
 vM 106 2,
 vM 107 14,
 vP 108 (vb .sub 106 107),
 vM 16 105,
 vM 17 108])
 (.seq (.region [vM 109 10,
 vP 110 (vc .quo 109 8),
 vM 18 110])
 (.seq (.region [vM 111 16,
 vM 112 17,
 vP 113 (vb .lss 111 112)])
 (.cond (.s 113) (.seq (.region [vM 114 16,
 vM 115 18,
 vP 116 (vb .geq 114 115),
 vM 8 116])
 (.seq (.region [vM 117 0,
 vM 118 1,
 vM 119 14,
 vM 120 3,
 vN 121 229 [(.s 117), (.s 118), (.s 119), (.s 120)]])
 (.region [vM 122 14,
 vP 123 (vc .add 122 1),
 vM 1 123])))
 (.seq (.region [vM 124 17,
 vM 125 18,
 vP 126 (vb .geq 124 125),
 vM 8 126])
 (.seq (.region [vM 127 0,
 vM 128 14,
 vP 129 (vc .add 128 1),
 vM 130 2,
 vM 131 3,
 vN 132 229 [(.s 127), (.s 129), (.s 130), (.s 131)]])
 (.region [vM 133 14,
 vM 2 133])))))))))))))))))
def k229 : Cd :=
  .seq (.region [vP 8 (.mv (.c (.bool true)))])
 (.seq (.region [vP 9 (.mv (.c (.bool true)))])
 (.block 0 (.loop k229l0)))
def k230 : Cd :=
  .seq (.region [vP 10 (.mv (vi 0)),
 vP 11 (.mv (vi 0))])
 (.seq (.seq (.draw [vD (vM 12 4) 0,
 vD (vM 13 0) 0,
 vD (vM 14 2) 0,
 vD (vI 15 2 13 14) 6,
 vD (vP 16 (.ld true 2 (.s 15))) 14,
 vD (vM 17 0) 0,
 vD (vM 18 1) 0,
 vD (vI 19 2 17 18) 96,
 vD (vP 20 (.ld true 2 (.s 19))) 224,
 ⟨⟨none, some 21, .inr (.val false (.s 12) [(.s 16), (.s 20)])⟩, some [], [], 511, false⟩,
 vD (vP 22 (vc .lss 21 0)) 1023])
 (.cond (.s 22) (.seq (.region [vM 23 3,
 vP 24 (.nc (.s 23)),
 vL 25 1 24,
 vP 26 (vc .add 25 1),
 vP 27 (.nc (.s 23)),
 ⟨none, none, .inl (.st 1 (.s 27) (.s 26))⟩])
 (.seq (.region [vM 28 2,
 vM 29 1,
 vM 10 28,
 vM 11 29])
 (.ret)))
 (.skip)))
 (.seq (.region [vM 30 1,
 vM 31 2,
 vM 10 30,
 vM 11 31])
 (.ret)))
def k231 : Cd :=
  .seq (.region [vP 4 (.mv (.c (.int .u32 0))),
 vP 5 (.mv (.c (.int .u32 0)))])
 (.seq (.region [vM 7 0,
 vP 8 (.cvi .u64 (.s 7)),
 vM 9 1,
 vP 10 (.cvi .u64 (.s 9)),
 vP 11 (vb .mul 8 10),
 vM 6 11])
 (.seq (.region [vM 12 6,
 vP 13 (.bin .shr (.s 12) (.c (.int .u64 32))),
 vP 14 (.cvi .u32 (.s 13)),
 vM 15 6,
 vP 16 (.cvi .u32 (.s 15)),
 vM 4 14,
 vM 5 16])
 (.ret)))
def k232 : Cd :=
  .seq (.region [vP 4 (.mv (.c (.int .u64 0))),
 vP 5 (.mv (.c (.int .u64 0)))])
 (.seq (.region [vM 14 0,
 vP 15 (.bin .and (.s 14) (.c (.int .u64 4294967295))),
 vM 6 15])
 (.seq (.region [vM 16 0,
 vP 17 (.bin .shr (.s 16) (.c (.int .u64 32))),
 vM 7 17])
 (.seq (.region [vM 18 1,
 vP 19 (.bin .and (.s 18) (.c (.int .u64 4294967295))),
 vM 8 19])
 (.seq (.region [vM 20 1,
 vP 21 (.bin .shr (.s 20) (.c (.int .u64 32))),
 vM 9 21])
 (.seq (.region [vM 22 6,
 vM 23 8,
 vP 24 (vb .mul 22 23),
 vM 10 24])
 (.seq (.region [vM 25 7,
 vM 26 8,
 vP 27 (vb .mul 25 26),
 vM 28 10,
 vP 29 (.bin .shr (.s 28) (.c (.int .u64 32))),
 vP 30 (vb .add 27 29),
 vM 11 30])
 (.seq (.region [vM 31 11,
 vP 32 (.bin .and (.s 31) (.c (.int .u64 4294967295))),
 vM 12 32])
 (.seq (.region [vM 33 11,
 vP 34 (.bin .shr (.s 33) (.c (.int .u64 32))),
 vM 13 34])
 (.seq (.region [vM 35 12,
 vM 36 6,
 vM 37 9,
 vP 38 (vb .mul 36 37),
 vP 39 (vb .add 35 38),
 vM 12 39])
 (.seq (.region [vM 40 7,
 vM 41 9,
 vP 42 (vb .mul 40 41),
 vM 43 13,
 vP 44 (vb .add 42 43),
 vM 45 12,
 vP 46 (.bin .shr (.s 45) (.c (.int .u64 32))),
 vP 47 (vb .add 44 46),
 vM 4 47])
 (.seq (.region [vM 48 0,
 vM 49 1,
 vP 50 (vb .mul 48 49),
 vM 5 50])
 (.ret))))))))))))
def k233l0 : Cd :=
  .seq (.seq (.draw [vD (vM 16 7) 0,
 vD (vM 17 1) 0,
 vD (vP 18 (vb .gtr 16 17)) 3,
 vD (vM 19 18) 7,
 vD (vT 19 20 (.mv (.s 0))) 15,
 vD (vT 19 21 (.mv (.s 7))) 15,
 vD (vT 19 22 (.ias 1 (.s 20) (.s 21))) 63,
 vD (vT 19 23 (.ld false 1 (.s 22))) 127,
 vD (vT 19 24 (.mv (.s 0))) 15,
 vD (vT 19 25 (.mv (.s 7))) 15,
 vD (vT 19 26 (vc .sub 25 1)) 527,
 vD (vT 19 27 (.ias 1 (.s 24) (.s 26))) 1807,
 vD (vT 19 28 (.ld false 1 (.s 27))) 3855,
 ⟨⟨some (19, true), some 29, .inr (.fn 227 [(.s 23), (.s 28)])⟩, some [], [], 8191, false⟩,
 vD (vP 30 (.pick (.s 19) (.s 29) (.c (.bool false)))) 16383])
 (.cond (.s 30) (.skip)
 (.exit 2)))
 (.seq (.block 3 (.draw [vD (vM 33 0) 0,
 vD (vM 34 7) 0,
 vD (vM 35 0) 0,
 vD (vM 36 7) 0,
 vD (vP 37 (vc .sub 36 1)) 8,
 vD (vM 38 0) 0,
 vD (vM 39 7) 0,
 vD (vP 40 (vc .sub 39 1)) 64,
 vD (vI 41 1 38 40) 224,
 vD (vL 42 1 41) 480,
 vD (vM 43 0) 0,
 vD (vM 44 7) 0,
 vD (vI 45 1 43 44) 3072,
 vD (vL 46 1 45) 7168,
 vD (vI 47 1 33 34) 16355,
 ⟨⟨none, none, .inl (.st 1 (.s 47) (.s 42))⟩, (some [.at 0]), [], 32739, false⟩,
 vD (vI 48 1 35 37) 65535,
 ⟨⟨none, none, .inl (.st 1 (.s 48) (.s 46))⟩, (some [.at 0]), [], 131071, false⟩]))
 (.region [vM 31 7,
 vP 32 (vc .sub 31 1),
 vM 7 32]))
def k233l1 : Cd :=
  .seq (.seq (.region [vM 10 6,
 vM 11 2,
 vP 12 (vb .lss 10 11)])
 (.cond (.s 12) (.skip)
 (.exit 0)))
 (.seq (.block 1 (.seq (.region [vM 15 6,
 vM 7 15])
 (.block 2 (.loop k233l0))))
 (.region [vM 13 6,
 vP 14 (vc .add 13 1),
 vM 6 14]))
def k233 : Cd :=
  .seq (.region [vM 8 1,
 vP 9 (vc .add 8 1),
 vM 6 9])
 (.block 0 (.loop k233l1))
def k234l0 : Cd :=
  .seq (.seq (.region [vM 18 9,
 vP 19 (vc .geq 18 0)])
 (.cond (.s 19) (.skip)
 (.exit 0)))
 (.seq (.block 1 (.region [vM 22 0,
 vM 23 9,
 vM 24 8,
 vM 25 6,
 vN 26 241 [(.s 22), (.s 23), (.s 24), (.s 25)]]))
 (.region [vM 20 9,
 vP 21 (vc .sub 20 1),
 vM 9 21]))
def k234l1 : Cd :=
  .seq (.seq (.region [vM 29 10,
 vP 30 (vc .geq 29 0)])
 (.cond (.s 30) (.skip)
 (.exit 2)))
 (.seq (.block 3 (.seq (.draw [vD (vM 33 0) 0,
 vD (vM 34 6) 0,
 vD (vM 35 0) 0,
 vD (vM 36 6) 0,
 vD (vM 37 10) 0,
 vD (vP 38 (vb .add 36 37)) 24,
 vD (vM 39 0) 0,
 vD (vM 40 6) 0,
 vD (vM 41 10) 0,
 vD (vP 42 (vb .add 40 41)) 384,
 vD (vI 43 1 39 42) 960,
 vD (vL 44 1 43) 1984,
 vD (vM 45 0) 0,
 vD (vM 46 6) 0,
 vD (vI 47 1 45 46) 12288,
 vD (vL 48 1 47) 28672,
 vD (vI 49 1 33 34) 65475,
 ⟨⟨none, none, .inl (.st 1 (.s 49) (.s 44))⟩, (some [.at 0]), [], 131011, false⟩,
 vD (vI 50 1 35 38) 262143,
 ⟨⟨none, none, .inl (.st 1 (.s 50) (.s 48))⟩, (some [.at 0]), [], 524287, false⟩])
 (.region [vM 51 0,
 vM 52 7,
 vM 53 10,
 vM 54 6,
 vN 55 241 [(.s 51), (.s 52), (.s 53), (.s 54)]])))
 (.region [vM 31 10,
 vP 32 (vc .sub 31 1),
 vM 10 32]))
def k234 : Cd :=
  .seq (.region [vM 11 1,
 vM 6 11])
 (.seq (.region [vP 7 (.mv (vi 0))])
 (.seq (.region [vM 12 2,
 vM 13 1,
 vP 14 (vb .sub 12 13),
 vM 8 14])
 (.seq (.seq (.region [vM 15 8,
 vP 16 (vc .sub 15 1),
 vP 17 (vc .quo 16 2),
 vM 9 17])
 (.block 0 (.loop k234l0)))
 (.seq (.region [vM 27 8,
 vP 28 (vc .sub 27 1),
 vM 10 28])
 (.block 2 (.loop k234l1))))))
def k235l0 : Cd :=
  .seq (.seq (.region [vM 26 9,
 vM 27 1,
 vM 28 6,
 vP 29 (vc .quo 28 4),
 vP 30 (vc .mul 29 2),
 vP 31 (vb .add 27 30),
 vP 32 (vc .add 31 1),
 vP 33 (vb .leq 26 32)])
 (.cond (.s 33) (.skip)
 (.exit 0)))
 (.seq (.block 1 (.seq (.region [vN 36 223 [(.s 7)],
 vM 37 8,
 vP 38 (.bin .sub (.s 37) (.c (.int .u64 1))),
 vP 39 (vb .and 36 38),
 vP 40 (.cvi .i64 (.s 39)),
 vM 10 40])
 (.seq (.seq (.region [vM 41 10,
 vM 42 6,
 vP 43 (vb .geq 41 42)])
 (.cond (.s 43) (.region [vM 44 10,
 vM 45 6,
 vP 46 (vb .sub 44 45),
 vM 10 46])
 (.skip)))
 (.draw [vD (vM 47 0) 0,
 vD (vM 48 9) 0,
 vD (vM 49 0) 0,
 vD (vM 50 1) 0,
 vD (vM 51 10) 0,
 vD (vP 52 (vb .add 50 51)) 24,
 vD (vM 53 0) 0,
 vD (vM 54 1) 0,
 vD (vM 55 10) 0,
 vD (vP 56 (vb .add 54 55)) 384,
 vD (vI 57 1 53 56) 960,
 vD (vL 58 1 57) 1984,
 vD (vM 59 0) 0,
 vD (vM 60 9) 0,
 vD (vI 61 1 59 60) 12288,
 vD (vL 62 1 61) 28672,
 vD (vI 63 1 47 48) 65475,
 ⟨⟨none, none, .inl (.st 1 (.s 63) (.s 58))⟩, (some [.at 0]), [], 131011, false⟩,
 vD (vI 64 1 49 52) 262143,
 ⟨⟨none, none, .inl (.st 1 (.s 64) (.s 62))⟩, (some [.at 0]), [], 524287, false⟩]))))
 (.region [vM 34 9,
 vP 35 (vc .add 34 1),
 vM 9 35]))
def k235 : Cd :=
  .seq (.region [vM 11 2,
 vM 12 1,
 vP 13 (vb .sub 11 12),
 vM 6 13])
 (.seq (.region [vM 14 6,
 vP 15 (vc .geq 14 8)])
 (.cond (.s 15) (.seq (.region [vM 16 6,
 vP 17 (.cvi .u64 (.s 16)),
 vP 7 (.alloc 253 [(.int .u64 0)]),
 ⟨none, none, .inl (.st 1 (.s 7) (.s 17))⟩])
 (.seq (.region [vM 18 6,
 vN 19 222 [(.s 18)],
 vM 8 19])
 (.seq (.region [vM 20 1,
 vM 21 6,
 vP 22 (vc .quo 21 4),
 vP 23 (vc .mul 22 2),
 vP 24 (vb .add 20 23),
 vP 25 (vc .sub 24 1),
 vM 9 25])
 (.block 0 (.loop k235l0)))))
 (.skip)))
def k236 : Cd :=
  .seq (.region [vP 6 (.mv (vi 0)),
 vP 7 (.mv (vi 0))])
 (.seq (.region [vM 13 2,
 vM 14 1,
 vP 15 (vb .sub 13 14),
 vM 8 15])
 (.seq (.region [vP 9 (.alloc 3 [(.int .i64 0)])])
 (.seq (.region [vM 16 1,
 vM 17 8,
 vP 18 (vc .quo 17 4),
 vP 19 (vc .mul 18 1),
 vP 20 (vb .add 16 19),
 vM 10 20])
 (.seq (.region [vM 21 1,
 vM 22 8,
 vP 23 (vc .quo 22 4),
 vP 24 (vc .mul 23 2),
 vP 25 (vb .add 21 24),
 vM 11 25])
 (.seq (.region [vM 26 1,
 vM 27 8,
 vP 28 (vc .quo 27 4),
 vP 29 (vc .mul 28 3),
 vP 30 (vb .add 26 29),
 vM 12 30])
 (.seq (.seq (.region [vM 31 8,
 vP 32 (vc .geq 31 8)])
 (.cond (.s 32) (.seq (.seq (.region [vM 33 8,
 vP 34 (vc .geq 33 50)])
 (.cond (.s 34) (.seq (.region [vM 35 0,
 vM 36 10,
 vN 37 242 [(.s 35), (.s 36), (.s 9)],
 vM 10 37])
 (.seq (.region [vM 38 0,
 vM 39 11,
 vN 40 242 [(.s 38), (.s 39), (.s 9)],
 vM 11 40])
 (.region [vM 41 0,
 vM 42 12,
 vN 43 242 [(.s 41), (.s 42), (.s 9)],
 vM 12 43])))
 (.skip)))
 (.region [vM 44 0,
 vM 45 10,
 vM 46 11,
 vM 47 12,
 vN 48 243 [(.s 44), (.s 45), (.s 46), (.s 47), (.s 9)],
 vM 11 48]))
 (.skip)))
 (.seq (.region [vL 49 1 9])
 (.block 0 (.seq (.region [vP 52 (vc .eql 49 0),
 vM 51 52])
 (.cond (.s 51) (.seq (.region [vM 53 11,
 vM 6 53,
 vP 7 (.mv (vi 1))])
 (.ret))
 (.seq (.region [vP 55 (vc .eql 49 12),
 vM 54 55])
 (.cond (.s 54) (.seq (.region [vM 56 11,
 vM 6 56,
 vP 7 (.mv (vi 2))])
 (.ret))
 (.seq (.region [vM 50 11,
 vM 6 50,
 vP 7 (.mv (vi 0))])
 (.ret))))))))))))))
def k237l0 : Cd :=
  .seq (.seq (.region [vM 11 6,
 vM 12 7,
 vP 13 (vb .lss 11 12)])
 (.cond (.s 13) (.skip)
 (.exit 0)))
 (.block 1 (.seq (.draw [vD (vM 14 0) 0,
 vD (vM 15 6) 0,
 vD (vM 16 0) 0,
 vD (vM 17 7) 0,
 vD (vM 18 0) 0,
 vD (vM 19 7) 0,
 vD (vI 20 1 18 19) 48,
 vD (vL 21 1 20) 112,
 vD (vM 22 0) 0,
 vD (vM 23 6) 0,
 vD (vI 24 1 22 23) 768,
 vD (vL 25 1 24) 1792,
 vD (vI 26 1 14 15) 4083,
 ⟨⟨none, none, .inl (.st 1 (.s 26) (.s 21))⟩, (some [.at 0]), [], 8179, false⟩,
 vD (vI 27 1 16 17) 16383,
 ⟨⟨none, none, .inl (.st 1 (.s 27) (.s 25))⟩, (some [.at 0]), [], 32767, false⟩])
 (.seq (.region [vM 28 6,
 vP 29 (vc .add 28 1),
 vM 6 29])
 (.region [vM 30 7,
 vP 31 (vc .sub 30 1),
 vM 7 31]))))
def k237 : Cd :=
  .seq (.region [vM 8 1,
 vM 6 8])
 (.seq (.region [vM 9 2,
 vP 10 (vc .sub 9 1),
 vM 7 10])
 (.block 0 (.loop k237l0)))
def k238l0 : Cd :=
  .seq (.seq (.draw [vD (vM 17 7) 0,
 vD (vM 18 2) 0,
 vD (vP 19 (vb .lss 17 18)) 3,
 vD (vM 20 19) 7,
 vD (vT 20 21 (.mv (.s 0))) 15,
 vD (vT 20 22 (.mv (.s 7))) 15,
 vD (vT 20 23 (.ias 1 (.s 21) (.s 22))) 63,
 vD (vT 20 24 (.ld false 1 (.s 23))) 127,
 vD (vT 20 25 (.mv (.s 0))) 15,
 vD (vT 20 26 (.mv (.s 7))) 15,
 vD (vT 20 27 (vc .sub 26 1)) 527,
 vD (vT 20 28 (.ias 1 (.s 25) (.s 27))) 1807,
 vD (vT 20 29 (.ld false 1 (.s 28))) 3855,
 ⟨⟨some (20, true), some 30, .inr (.fn 227 [(.s 24), (.s 29)])⟩, some [], [], 8191, false⟩,
 vD (vT 20 31 (.not (.s 30))) 16383,
 vD (vP 32 (.pick (.s 20) (.s 31) (.c (.bool false)))) 32767])
 (.cond (.s 32) (.skip)
 (.exit 2)))
 (.block 3 (.region [vM 33 7,
 vP 34 (vc .add 33 1),
 vM 7 34]))
def k238l1 : Cd :=
  .seq (.seq (.region [vM 64 9,
 vP 65 (vc .geq 64 1)])
 (.cond (.s 65) (.skip)
 (.exit 4)))
 (.seq (.block 5 (.seq (.seq (.draw [vD (vM 68 0) 0,
 vD (vM 69 9) 0,
 vD (vI 70 1 68 69) 3,
 vD (vL 71 1 70) 7,
 vD (vM 72 0) 0,
 vD (vM 73 9) 0,
 vD (vP 74 (vc .sub 73 1)) 32,
 vD (vI 75 1 72 74) 112,
 vD (vL 76 1 75) 240,
 vD (vN 77 227 [(.s 71), (.s 76)]) 511,
 vD (vP 78 (.not (.s 77))) 1023])
 (.cond (.s 78) (.exit 4)
 (.skip)))
 (.draw [vD (vM 79 0) 0,
 vD (vM 80 9) 0,
 vD (vM 81 0) 0,
 vD (vM 82 9) 0,
 vD (vP 83 (vc .sub 82 1)) 8,
 vD (vM 84 0) 0,
 vD (vM 85 9) 0,
 vD (vP 86 (vc .sub 85 1)) 64,
 vD (vI 87 1 84 86) 224,
 vD (vL 88 1 87) 480,
 vD (vM 89 0) 0,
 vD (vM 90 9) 0,
 vD (vI 91 1 89 90) 3072,
 vD (vL 92 1 91) 7168,
 vD (vI 93 1 79 80) 16355,
 ⟨⟨none, none, .inl (.st 1 (.s 93) (.s 88))⟩, (some [.at 0]), [], 32739, false⟩,
 vD (vI 94 1 81 83) 65535,
 ⟨⟨none, none, .inl (.st 1 (.s 94) (.s 92))⟩, (some [.at 0]), [], 131071, false⟩])))
 (.region [vM 66 9,
 vP 67 (vc .sub 66 1),
 vM 9 67]))
def k238l2 : Cd :=
  .seq (.seq (.region [vM 101 10,
 vM 102 2,
 vP 103 (vb .lss 101 102)])
 (.cond (.s 103) (.skip)
 (.exit 6)))
 (.seq (.block 7 (.seq (.seq (.draw [vD (vM 106 0) 0,
 vD (vM 107 10) 0,
 vD (vI 108 1 106 107) 3,
 vD (vL 109 1 108) 7,
 vD (vM 110 0) 0,
 vD (vM 111 10) 0,
 vD (vP 112 (vc .sub 111 1)) 32,
 vD (vI 113 1 110 112) 112,
 vD (vL 114 1 113) 240,
 vD (vN 115 227 [(.s 109), (.s 114)]) 511,
 vD (vP 116 (.not (.s 115))) 1023])
 (.cond (.s 116) (.exit 6)
 (.skip)))
 (.draw [vD (vM 117 0) 0,
 vD (vM 118 10) 0,
 vD (vM 119 0) 0,
 vD (vM 120 10) 0,
 vD (vP 121 (vc .sub 120 1)) 8,
 vD (vM 122 0) 0,
 vD (vM 123 10) 0,
 vD (vP 124 (vc .sub 123 1)) 64,
 vD (vI 125 1 122 124) 224,
 vD (vL 126 1 125) 480,
 vD (vM 127 0) 0,
 vD (vM 128 10) 0,
 vD (vI 129 1 127 128) 3072,
 vD (vL 130 1 129) 7168,
 vD (vI 131 1 117 118) 16355,
 ⟨⟨none, none, .inl (.st 1 (.s 131) (.s 126))⟩, (some [.at 0]), [], 32739, false⟩,
 vD (vI 132 1 119 121) 65535,
 ⟨⟨none, none, .inl (.st 1 (.s 132) (.s 130))⟩, (some [.at 0]), [], 131071, false⟩])))
 (.region [vM 104 10,
 vP 105 (vc .add 104 1),
 vM 10 105]))
def k238l3 : Cd :=
  .seq (.seq (.region [vM 13 8,
 vP 14 (vc .lss 13 5)])
 (.cond (.s 14) (.skip)
 (.exit 0)))
 (.seq (.block 1 (.seq (.block 2 (.loop k238l0))
 (.seq (.seq (.region [vM 35 7,
 vM 36 2,
 vP 37 (vb .eql 35 36)])
 (.cond (.s 37) (.seq (.region [vP 6 (.mv (.c (.bool true)))])
 (.ret))
 (.skip)))
 (.seq (.seq (.region [vM 38 2,
 vM 39 1,
 vP 40 (vb .sub 38 39),
 vP 41 (vc .lss 40 50)])
 (.cond (.s 41) (.seq (.region [vP 6 (.mv (.c (.bool false)))])
 (.ret))
 (.skip)))
 (.seq (.draw [vD (vM 42 0) 0,
 vD (vM 43 7) 0,
 vD (vM 44 0) 0,
 vD (vM 45 7) 0,
 vD (vP 46 (vc .sub 45 1)) 8,
 vD (vM 47 0) 0,
 vD (vM 48 7) 0,
 vD (vP 49 (vc .sub 48 1)) 64,
 vD (vI 50 1 47 49) 224,
 vD (vL 51 1 50) 480,
 vD (vM 52 0) 0,
 vD (vM 53 7) 0,
 vD (vI 54 1 52 53) 3072,
 vD (vL 55 1 54) 7168,
 vD (vI 56 1 42 43) 16355,
 ⟨⟨none, none, .inl (.st 1 (.s 56) (.s 51))⟩, (some [.at 0]), [], 32739, false⟩,
 vD (vI 57 1 44 46) 65535,
 ⟨⟨none, none, .inl (.st 1 (.s 57) (.s 55))⟩, (some [.at 0]), [], 131071, false⟩])
 (.seq (.seq (.region [vM 58 7,
 vM 59 1,
 vP 60 (vb .sub 58 59),
 vP 61 (vc .geq 60 2)])
 (.cond (.s 61) (.seq (.region [vM 62 7,
 vP 63 (vc .sub 62 1),
 vM 9 63])
 (.block 4 (.loop k238l1)))
 (.skip)))
 (.seq (.region [vM 95 2,
 vM 96 7,
 vP 97 (vb .sub 95 96),
 vP 98 (vc .geq 97 2)])
 (.cond (.s 98) (.seq (.region [vM 99 7,
 vP 100 (vc .add 99 1),
 vM 10 100])
 (.block 6 (.loop k238l2)))
 (.skip)))))))))
 (.region [vM 15 8,
 vP 16 (vc .add 15 1),
 vM 8 16]))
def k238 : Cd :=
  .seq (.region [vP 6 (.mv (.c (.bool false)))])
 (.seq (.region [vM 11 1,
 vP 12 (vc .add 11 1),
 vM 7 12])
 (.seq (.seq (.region [vP 8 (.mv (vi 0))])
 (.block 0 (.loop k238l3)))
 (.seq (.region [vP 6 (.mv (.c (.bool false)))])
 (.ret))))
def k239l0 : Cd :=
  .seq (.seq (.draw [vD (vM 29 9) 0,
 vD (vM 30 10) 0,
 vD (vP 31 (vb .leq 29 30)) 3,
 vD (vM 32 31) 7,
 vD (vT 32 33 (.mv (.s 0))) 15,
 vD (vT 32 34 (.mv (.s 1))) 15,
 vD (vT 32 35 (.ias 1 (.s 33) (.s 34))) 63,
 vD (vT 32 36 (.ld false 1 (.s 35))) 127,
 vD (vT 32 37 (.mv (.s 0))) 15,
 vD (vT 32 38 (.mv (.s 9))) 15,
 vD (vT 32 39 (.ias 1 (.s 37) (.s 38))) 783,
 vD (vT 32 40 (.ld false 1 (.s 39))) 1807,
 ⟨⟨some (32, true), some 41, .inr (.fn 227 [(.s 36), (.s 40)])⟩, some [], [], 4095, false⟩,
 vD (vT 32 42 (.not (.s 41))) 8191,
 vD (vP 43 (.pick (.s 32) (.s 42) (.c (.bool false)))) 16383])
 (.cond (.s 43) (.skip)
 (.exit 2)))
 (.block 3 (.region [vM 44 9,
 vP 45 (vc .add 44 1),
 vM 9 45]))
def k239l1 : Cd :=
  .seq (.seq (.draw [vD (vM 46 9) 0,
 vD (vM 47 10) 0,
 vD (vP 48 (vb .leq 46 47)) 3,
 vD (vM 49 48) 7,
 vD (vT 49 50 (.mv (.s 0))) 15,
 vD (vT 49 51 (.mv (.s 1))) 15,
 vD (vT 49 52 (.ias 1 (.s 50) (.s 51))) 63,
 vD (vT 49 53 (.ld false 1 (.s 52))) 127,
 vD (vT 49 54 (.mv (.s 0))) 15,
 vD (vT 49 55 (.mv (.s 10))) 15,
 vD (vT 49 56 (.ias 1 (.s 54) (.s 55))) 783,
 vD (vT 49 57 (.ld false 1 (.s 56))) 1807,
 ⟨⟨some (49, true), some 58, .inr (.fn 227 [(.s 53), (.s 57)])⟩, some [], [], 4095, false⟩,
 vD (vP 59 (.pick (.s 49) (.s 58) (.c (.bool false)))) 8191])
 (.cond (.s 59) (.skip)
 (.exit 4)))
 (.block 5 (.region [vM 60 10,
 vP 61 (vc .sub 60 1),
 vM 10 61]))
def k239l2 : Cd :=
  .block 1 (.seq (.block 2 (.loop k239l0))
 (.seq (.block 4 (.loop k239l1))
 (.seq (.seq (.region [vM 62 9,
 vM 63 10,
 vP 64 (vb .gtr 62 63)])
 (.cond (.s 64) (.exit 0)
 (.skip)))
 (.seq (.draw [vD (vM 65 0) 0,
 vD (vM 66 9) 0,
 vD (vM 67 0) 0,
 vD (vM 68 10) 0,
 vD (vM 69 0) 0,
 vD (vM 70 10) 0,
 vD (vI 71 1 69 70) 48,
 vD (vL 72 1 71) 112,
 vD (vM 73 0) 0,
 vD (vM 74 9) 0,
 vD (vI 75 1 73 74) 768,
 vD (vL 76 1 75) 1792,
 vD (vI 77 1 65 66) 4083,
 ⟨⟨none, none, .inl (.st 1 (.s 77) (.s 72))⟩, (some [.at 0]), [], 8179, false⟩,
 vD (vI 78 1 67 68) 16383,
 ⟨⟨none, none, .inl (.st 1 (.s 78) (.s 76))⟩, (some [.at 0]), [], 32767, false⟩])
 (.seq (.region [vM 79 9,
 vP 80 (vc .add 79 1),
 vM 9 80])
 (.region [vM 81 10,
 vP 82 (vc .sub 81 1),
 vM 10 82]))))))
def k239 : Cd :=
  .seq (.region [vP 8 (.mv (vi 0))])
 (.seq (.draw [vD (vM 11 0) 0,
 vD (vM 12 1) 0,
 vD (vM 13 0) 0,
 vD (vM 14 3) 0,
 vD (vM 15 0) 0,
 vD (vM 16 3) 0,
 vD (vI 17 1 15 16) 48,
 vD (vL 18 1 17) 112,
 vD (vM 19 0) 0,
 vD (vM 20 1) 0,
 vD (vI 21 1 19 20) 768,
 vD (vL 22 1 21) 1792,
 vD (vI 23 1 11 12) 4083,
 ⟨⟨none, none, .inl (.st 1 (.s 23) (.s 18))⟩, (some [.at 0]), [], 8179, false⟩,
 vD (vI 24 1 13 14) 16383,
 ⟨⟨none, none, .inl (.st 1 (.s 24) (.s 22))⟩, (some [.at 0]), [], 32767, false⟩])
 (.seq (.region [vM 25 1,
 vP 26 (vc .add 25 1),
 vM 27 2,
 vP 28 (vc .sub 27 1),
 vM 9 26,
 vM 10 28])
 (.seq (.block 0 (.loop k239l2))
 (.seq (.region [vM 83 9,
 vM 8 83])
 (.ret)))))
def k240l0 : Cd :=
  .seq (.seq (.draw [vD (vM 30 10) 0,
 vD (vM 31 11) 0,
 vD (vP 32 (vb .leq 30 31)) 3,
 vD (vM 33 32) 7,
 vD (vT 33 34 (.mv (.s 0))) 15,
 vD (vT 33 35 (.mv (.s 10))) 15,
 vD (vT 33 36 (.ias 1 (.s 34) (.s 35))) 63,
 vD (vT 33 37 (.ld false 1 (.s 36))) 127,
 vD (vT 33 38 (.mv (.s 0))) 15,
 vD (vT 33 39 (.mv (.s 1))) 15,
 vD (vT 33 40 (.ias 1 (.s 38) (.s 39))) 783,
 vD (vT 33 41 (.ld false 1 (.s 40))) 1807,
 ⟨⟨some (33, true), some 42, .inr (.fn 227 [(.s 37), (.s 41)])⟩, some [], [], 4095, false⟩,
 vD (vP 43 (.pick (.s 33) (.s 42) (.c (.bool false)))) 8191])
 (.cond (.s 43) (.skip)
 (.exit 0)))
 (.block 1 (.region [vM 44 10,
 vP 45 (vc .add 44 1),
 vM 10 45]))
def k240l1 : Cd :=
  .seq (.seq (.draw [vD (vM 46 10) 0,
 vD (vM 47 11) 0,
 vD (vP 48 (vb .leq 46 47)) 3,
 vD (vM 49 48) 7,
 vD (vT 49 50 (.mv (.s 0))) 15,
 vD (vT 49 51 (.mv (.s 11))) 15,
 vD (vT 49 52 (.ias 1 (.s 50) (.s 51))) 63,
 vD (vT 49 53 (.ld false 1 (.s 52))) 127,
 vD (vT 49 54 (.mv (.s 0))) 15,
 vD (vT 49 55 (.mv (.s 1))) 15,
 vD (vT 49 56 (.ias 1 (.s 54) (.s 55))) 783,
 vD (vT 49 57 (.ld false 1 (.s 56))) 1807,
 ⟨⟨some (49, true), some 58, .inr (.fn 227 [(.s 53), (.s 57)])⟩, some [], [], 4095, false⟩,
 vD (vT 49 59 (.not (.s 58))) 8191,
 vD (vP 60 (.pick (.s 49) (.s 59) (.c (.bool false)))) 16383])
 (.cond (.s 60) (.skip)
 (.exit 2)))
 (.block 3 (.region [vM 61 11,
 vP 62 (vc .sub 61 1),
 vM 11 62]))
def k240l2 : Cd :=
  .seq (.seq (.draw [vD (vM 99 10) 0,
 vD (vM 100 11) 0,
 vD (vP 101 (vb .leq 99 100)) 3,
 vD (vM 102 101) 7,
 vD (vT 102 103 (.mv (.s 0))) 15,
 vD (vT 102 104 (.mv (.s 10))) 15,
 vD (vT 102 105 (.ias 1 (.s 103) (.s 104))) 63,
 vD (vT 102 106 (.ld false 1 (.s 105))) 127,
 vD (vT 102 107 (.mv (.s 0))) 15,
 vD (vT 102 108 (.mv (.s 1))) 15,
 vD (vT 102 109 (.ias 1 (.s 107) (.s 108))) 783,
 vD (vT 102 110 (.ld false 1 (.s 109))) 1807,
 ⟨⟨some (102, true), some 111, .inr (.fn 227 [(.s 106), (.s 110)])⟩, some [], [], 4095, false⟩,
 vD (vP 112 (.pick (.s 102) (.s 111) (.c (.bool false)))) 8191])
 (.cond (.s 112) (.skip)
 (.exit 6)))
 (.block 7 (.region [vM 113 10,
 vP 114 (vc .add 113 1),
 vM 10 114]))
def k240l3 : Cd :=
  .seq (.seq (.draw [vD (vM 115 10) 0,
 vD (vM 116 11) 0,
 vD (vP 117 (vb .leq 115 116)) 3,
 vD (vM 118 117) 7,
 vD (vT 118 119 (.mv (.s 0))) 15,
 vD (vT 118 120 (.mv (.s 11))) 15,
 vD (vT 118 121 (.ias 1 (.s 119) (.s 120))) 63,
 vD (vT 118 122 (.ld false 1 (.s 121))) 127,
 vD (vT 118 123 (.mv (.s 0))) 15,
 vD (vT 118 124 (.mv (.s 1))) 15,
 vD (vT 118 125 (.ias 1 (.s 123) (.s 124))) 783,
 vD (vT 118 126 (.ld false 1 (.s 125))) 1807,
 ⟨⟨some (118, true), some 127, .inr (.fn 227 [(.s 122), (.s 126)])⟩, some [], [], 4095, false⟩,
 vD (vT 118 128 (.not (.s 127))) 8191,
 vD (vP 129 (.pick (.s 118) (.s 128) (.c (.bool false)))) 16383])
 (.cond (.s 129) (.skip)
 (.exit 8)))
 (.block 9 (.region [vM 130 11,
 vP 131 (vc .sub 130 1),
 vM 11 131]))
def k240l4 : Cd :=
  .block 5 (.seq (.block 6 (.loop k240l2))
 (.seq (.block 8 (.loop k240l3))
 (.seq (.seq (.region [vM 132 10,
 vM 133 11,
 vP 134 (vb .gtr 132 133)])
 (.cond (.s 134) (.exit 4)
 (.skip)))
 (.seq (.draw [vD (vM 135 0) 0,
 vD (vM 136 10) 0,
 vD (vM 137 0) 0,
 vD (vM 138 11) 0,
 vD (vM 139 0) 0,
 vD (vM 140 11) 0,
 vD (vI 141 1 139 140) 48,
 vD (vL 142 1 141) 112,
 vD (vM 143 0) 0,
 vD (vM 144 10) 0,
 vD (vI 145 1 143 144) 768,
 vD (vL 146 1 145) 1792,
 vD (vI 147 1 135 136) 4083,
 ⟨⟨none, none, .inl (.st 1 (.s 147) (.s 142))⟩, (some [.at 0]), [], 8179, false⟩,
 vD (vI 148 1 137 138) 16383,
 ⟨⟨none, none, .inl (.st 1 (.s 148) (.s 146))⟩, (some [.at 0]), [], 32767, false⟩])
 (.seq (.region [vM 149 10,
 vP 150 (vc .add 149 1),
 vM 10 150])
 (.region [vM 151 11,
 vP 152 (vc .sub 151 1),
 vM 11 152]))))))
def k240 : Cd :=
  .seq (.region [vP 8 (.mv (vi 0)),
 vP 9 (.mv (.c (.bool false)))])
 (.seq (.draw [vD (vM 12 0) 0,
 vD (vM 13 1) 0,
 vD (vM 14 0) 0,
 vD (vM 15 3) 0,
 vD (vM 16 0) 0,
 vD (vM 17 3) 0,
 vD (vI 18 1 16 17) 48,
 vD (vL 19 1 18) 112,
 vD (vM 20 0) 0,
 vD (vM 21 1) 0,
 vD (vI 22 1 20 21) 768,
 vD (vL 23 1 22) 1792,
 vD (vI 24 1 12 13) 4083,
 ⟨⟨none, none, .inl (.st 1 (.s 24) (.s 19))⟩, (some [.at 0]), [], 8179, false⟩,
 vD (vI 25 1 14 15) 16383,
 ⟨⟨none, none, .inl (.st 1 (.s 25) (.s 23))⟩, (some [.at 0]), [], 32767, false⟩])
 (.seq (.region [vM 26 1,
 vP 27 (vc .add 26 1),
 vM 28 2,
 vP 29 (vc .sub 28 1),
 vM 10 27,
 vM 11 29])
 (.seq (.block 0 (.loop k240l0))
 (.seq (.block 2 (.loop k240l1))
 (.seq (.seq (.region [vM 63 10,
 vM 64 11,
 vP 65 (vb .gtr 63 64)])
 (.cond (.s 65) (.seq (.draw [vD (vM 66 0) 0,
 vD (vM 67 11) 0,
 vD (vM 68 0) 0,
 vD (vM 69 1) 0,
 vD (vM 70 0) 0,
 vD (vM 71 1) 0,
 vD (vI 72 1 70 71) 48,
 vD (vL 73 1 72) 112,
 vD (vM 74 0) 0,
 vD (vM 75 11) 0,
 vD (vI 76 1 74 75) 768,
 vD (vL 77 1 76) 1792,
 vD (vI 78 1 66 67) 4083,
 ⟨⟨none, none, .inl (.st 1 (.s 78) (.s 73))⟩, (some [.at 0]), [], 8179, false⟩,
 vD (vI 79 1 68 69) 16383,
 ⟨⟨none, none, .inl (.st 1 (.s 79) (.s 77))⟩, (some [.at 0]), [], 32767, false⟩])
 (.seq (.region [vM 80 11,
 vM 8 80,
 vP 9 (.mv (.c (.bool true)))])
 (.ret)))
 (.skip)))
 (.seq (.draw [vD (vM 81 0) 0,
 vD (vM 82 10) 0,
 vD (vM 83 0) 0,
 vD (vM 84 11) 0,
 vD (vM 85 0) 0,
 vD (vM 86 11) 0,
 vD (vI 87 1 85 86) 48,
 vD (vL 88 1 87) 112,
 vD (vM 89 0) 0,
 vD (vM 90 10) 0,
 vD (vI 91 1 89 90) 768,
 vD (vL 92 1 91) 1792,
 vD (vI 93 1 81 82) 4083,
 ⟨⟨none, none, .inl (.st 1 (.s 93) (.s 88))⟩, (some [.at 0]), [], 8179, false⟩,
 vD (vI 94 1 83 84) 16383,
 ⟨⟨none, none, .inl (.st 1 (.s 94) (.s 92))⟩, (some [.at 0]), [], 32767, false⟩])
 (.seq (.region [vM 95 10,
 vP 96 (vc .add 95 1),
 vM 10 96])
 (.seq (.region [vM 97 11,
 vP 98 (vc .sub 97 1),
 vM 11 98])
 (.seq (.block 4 (.loop k240l4))
 (.seq (.draw [vD (vM 153 0) 0,
 vD (vM 154 11) 0,
 vD (vM 155 0) 0,
 vD (vM 156 1) 0,
 vD (vM 157 0) 0,
 vD (vM 158 1) 0,
 vD (vI 159 1 157 158) 48,
 vD (vL 160 1 159) 112,
 vD (vM 161 0) 0,
 vD (vM 162 11) 0,
 vD (vI 163 1 161 162) 768,
 vD (vL 164 1 163) 1792,
 vD (vI 165 1 153 154) 4083,
 ⟨⟨none, none, .inl (.st 1 (.s 165) (.s 160))⟩, (some [.at 0]), [], 8179, false⟩,
 vD (vI 166 1 155 156) 16383,
 ⟨⟨none, none, .inl (.st 1 (.s 166) (.s 164))⟩, (some [.at 0]), [], 32767, false⟩])
 (.seq (.region [vM 167 11,
 vM 8 167,
 vP 9 (.mv (.c (.bool false)))])
 (.ret))))))))))))
def k241l0 : Cd :=
  .block 1 (.seq (.region [vM 11 8,
 vP 12 (.bin .mul (vi 2) (.s 11)),
 vP 13 (vc .add 12 1),
 vM 9 13])
 (.seq (.seq (.region [vM 14 9,
 vM 15 2,
 vP 16 (vb .geq 14 15)])
 (.cond (.s 16) (.exit 0)
 (.skip)))
 (.seq (.seq (.draw [vD (vM 17 9) 0,
 vD (vP 18 (vc .add 17 1)) 1,
 vD (vM 19 2) 0,
 vD (vP 20 (vb .lss 18 19)) 7,
 vD (vM 21 20) 15,
 vD (vT 21 22 (.mv (.s 0))) 31,
 vD (vT 21 23 (.mv (.s 3))) 31,
 vD (vT 21 24 (.mv (.s 9))) 31,
 vD (vT 21 25 (vb .add 23 24)) 223,
 vD (vT 21 26 (.ias 1 (.s 22) (.s 25))) 511,
 vD (vT 21 27 (.ld false 1 (.s 26))) 1023,
 vD (vT 21 28 (.mv (.s 0))) 31,
 vD (vT 21 29 (.mv (.s 3))) 31,
 vD (vT 21 30 (.mv (.s 9))) 31,
 vD (vT 21 31 (vb .add 29 30)) 12319,
 vD (vT 21 32 (vc .add 31 1)) 28703,
 vD (vT 21 33 (.ias 1 (.s 28) (.s 32))) 63519,
 vD (vT 21 34 (.ld false 1 (.s 33))) 129055,
 ⟨⟨some (21, true), some 35, .inr (.fn 227 [(.s 27), (.s 34)])⟩, some [], [], 262143, false⟩,
 vD (vP 36 (.pick (.s 21) (.s 35) (.c (.bool false)))) 524287])
 (.cond (.s 36) (.region [vM 37 9,
 vP 38 (vc .add 37 1),
 vM 9 38])
 (.skip)))
 (.seq (.seq (.draw [vD (vM 39 0) 0,
 vD (vM 40 3) 0,
 vD (vM 41 8) 0,
 vD (vP 42 (vb .add 40 41)) 6,
 vD (vI 43 1 39 42) 15,
 vD (vL 44 1 43) 31,
 vD (vM 45 0) 0,
 vD (vM 46 3) 0,
 vD (vM 47 9) 0,
 vD (vP 48 (vb .add 46 47)) 384,
 vD (vI 49 1 45 48) 960,
 vD (vL 50 1 49) 1984,
 vD (vN 51 227 [(.s 44), (.s 50)]) 4095,
 vD (vP 52 (.not (.s 51))) 8191])
 (.cond (.s 52) (.ret)
 (.skip)))
 (.seq (.draw [vD (vM 53 0) 0,
 vD (vM 54 3) 0,
 vD (vM 55 8) 0,
 vD (vP 56 (vb .add 54 55)) 6,
 vD (vM 57 0) 0,
 vD (vM 58 3) 0,
 vD (vM 59 9) 0,
 vD (vP 60 (vb .add 58 59)) 96,
 vD (vM 61 0) 0,
 vD (vM 62 3) 0,
 vD (vM 63 9) 0,
 vD (vP 64 (vb .add 62 63)) 1536,
 vD (vI 65 1 61 64) 3840,
 vD (vL 66 1 65) 7936,
 vD (vM 67 0) 0,
 vD (vM 68 3) 0,
 vD (vM 69 8) 0,
 vD (vP 70 (vb .add 68 69)) 98304,
 vD (vI 71 1 67 70) 245760,
 vD (vL 72 1 71) 507904,
 vD (vI 73 1 53 56) 1048335,
 ⟨⟨none, none, .inl (.st 1 (.s 73) (.s 66))⟩, (some [.at 0]), [], 2096911, false⟩,
 vD (vI 74 1 57 60) 4194303,
 ⟨⟨none, none, .inl (.st 1 (.s 74) (.s 72))⟩, (some [.at 0]), [], 8388607, false⟩])
 (.region [vM 75 9,
 vM 8 75]))))))
def k241 : Cd :=
  .seq (.region [vM 10 1,
 vM 8 10])
 (.block 0 (.loop k241l0))
def k242 : Cd :=
  .seq (.region [vP 6 (.mv (vi 0))])
 (.seq (.region [vM 7 0,
 vM 8 1,
 vP 9 (vc .sub 8 1),
 vM 10 1,
 vM 11 1,
 vP 12 (vc .add 11 1),
 vM 13 2,
 vN 14 243 [(.s 7), (.s 9), (.s 10), (.s 12), (.s 13)],
 vM 6 14])
 (.ret))
def k243 : Cd :=
  .seq (.region [vP 10 (.mv (vi 0))])
 (.seq (.region [vM 12 0,
 vM 13 1,
 vM 14 2,
 vM 15 4,
 vN 16 244 [(.s 12), (.s 13), (.s 14), (.s 15)],
 vM 11 16,
 vP 17 (.ex (.s 11) 0),
 vP 18 (.ex (.s 11) 1),
 vM 1 17,
 vM 2 18])
 (.seq (.region [vM 20 0,
 vM 21 2,
 vM 22 3,
 vM 23 4,
 vN 24 244 [(.s 20), (.s 21), (.s 22), (.s 23)],
 vM 19 24,
 vP 25 (.ex (.s 19) 0),
 vP 26 (.ex (.s 19) 1),
 vM 2 25,
 vM 3 26])
 (.seq (.region [vM 28 0,
 vM 29 1,
 vM 30 2,
 vM 31 4,
 vN 32 244 [(.s 28), (.s 29), (.s 30), (.s 31)],
 vM 27 32,
 vP 33 (.ex (.s 27) 0),
 vP 34 (.ex (.s 27) 1),
 vM 1 33,
 vM 2 34])
 (.seq (.region [vM 35 2,
 vM 10 35])
 (.ret)))))
def k244 : Cd :=
  .seq (.region [vP 8 (.mv (vi 0)),
 vP 9 (.mv (vi 0))])
 (.seq (.seq (.draw [vD (vM 10 0) 0,
 vD (vM 11 2) 0,
 vD (vI 12 1 10 11) 3,
 vD (vL 13 1 12) 7,
 vD (vM 14 0) 0,
 vD (vM 15 1) 0,
 vD (vI 16 1 14 15) 48,
 vD (vL 17 1 16) 112,
 vD (vN 18 227 [(.s 13), (.s 17)]) 255])
 (.cond (.s 18) (.seq (.region [vM 19 3,
 vP 20 (.nc (.s 19)),
 vL 21 1 20,
 vP 22 (vc .add 21 1),
 vP 23 (.nc (.s 19)),
 ⟨none, none, .inl (.st 1 (.s 23) (.s 22))⟩])
 (.seq (.region [vM 24 2,
 vM 25 1,
 vM 8 24,
 vM 9 25])
 (.ret)))
 (.skip)))
 (.seq (.region [vM 26 1,
 vM 27 2,
 vM 8 26,
 vM 9 27])
 (.ret)))
end Go.Proofs.YtlfknfknlcgfcaaGreatDoor
