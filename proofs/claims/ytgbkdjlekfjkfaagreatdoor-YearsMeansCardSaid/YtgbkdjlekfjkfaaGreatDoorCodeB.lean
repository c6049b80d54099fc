/- The small code of the functions of this program, as its own reader reads them: part B. -/
import Derived.Test.YtgbkdjlekfjkfaaGreatDoorCodeA
namespace Go.Proofs.YtgbkdjlekfjkfaaGreatDoor
open Go Go.Em
set_option maxRecDepth 100000
def k165l0 : Cd :=
  .seq (.region [vP 22 (vb .lss 21 20)])
 (.seq (.cond (.s 22) (.skip)
 (.exit 0))
 (.seq (.block 1 (.seq (.region [vI 23 4 19 21,
 vP 24 (.ldv true 4 (.s 23)),
 vP 10 (.alloc 213 [(.int .i64 0), (.int .i64 0), (.int .i64 0), (.bool false)]),
 ⟨none, none, .inl (.st 4 (.s 10) (.s 24))⟩])
 (.seq (.draw [vD (vP 25 (.ld true 6 (.s 4))) 0,
 vD (vP 26 (.ldv true 4 (.s 10))) 0,
 vD (vM 27 2) 0,
 ⟨vN 28 189 [(.s 25), (.s 26), (.s 27)], none, [], 7, false⟩,
 vD (vM 29 28) 15,
 ⟨vT 29 30 (.ld true 6 (.s 4)), some [], [.fr 35, .fr 36, .at 2], 31, false⟩,
 vD (vT 29 31 (.mv (.s 1))) 31,
 ⟨vT 29 32 (.slc 1 (.s 31) (some (vi 1)) none none), some [], [.fr 35, .fr 36, .at 2], 95, false⟩,
 vD (vT 29 33 (.mv (.s 2))) 31,
 vD (vT 29 34 (.ldv true 4 (.s 10))) 31,
 ⟨vT 29 35 (.bs 213 4 1 [(.int .i64 0), (.int .i64 0), (.int .i64 0), (.bool false)] [(0, (.s 34))]), (some [.fr 35]), [], 543, false⟩,
 ⟨vT 29 36 (.apl 213 4 32 (.s 33) (.s 35)), (some [.fr 36, .at 2]), [], 1823, false⟩,
 vD (vT 29 37 (.mv (.s 3))) 31,
 ⟨⟨some (29, true), some 38, .inr (.fn 165 [(.s 30), (.s 32), (.s 36), (.s 37)])⟩, none, [], 8191, false⟩,
 vD (vT 29 39 (.not (.s 38))) 16383,
 vD (vP 40 (.pick (.s 29) (.s 39) (.c (.bool false)))) 32767])
 (.cond (.s 40) (.seq (.region [vP 8 (.mv (.c (.bool false)))])
 (.ret))
 (.skip)))))
 (.region [vP 41 (vc .add 21 1),
 vM 21 41])))
def k165 : Cd :=
  .seq (.region [vP 4 (.box 183 6 (.s 0)),
 vP 8 (.mv (.c (.bool false)))])
 (.seq (.seq (.region [vM 11 1,
 vP 12 (.len (.s 11)),
 vP 13 (vc .eql 12 0)])
 (.cond (.s 13) (.seq (.region [vM 14 3,
 vM 15 2,
 ⟨none, some 16, .inr (.val false (.s 14) [(.s 15)])⟩,
 vM 8 16])
 (.ret))
 (.skip)))
 (.seq (.seq (.region [vM 17 1,
 vP 18 (.ias 1 (.s 17) (vi 0)),
 vL 19 1 18,
 vP 20 (.len (.s 19)),
 vP 21 (.mv (vi 0))])
 (.block 0 (.loop k165l0)))
 (.seq (.region [vP 8 (.mv (.c (.bool true)))])
 (.ret))))
def k166l0 : Cd :=
  .region [vP 11 (.alloc 245 [(.int .i64 0), (.int .i64 0), (.int .i64 0)]),
 ⟨none, none, .inl (.st 3 (.s 11) (.s 15))⟩]
def k166l1 : Cd :=
  .block 1 (.seq (.seq (.region [vL 16 1 8,
 vF 17 11 0,
 vL 18 1 17,
 vP 19 (vb .lss 16 18),
 vM 20 19,
 vT 20 21 (.ld false 1 (.s 5)),
 vT 20 22 (.ld false 1 (.s 9)),
 vT 20 23 (vc .gtr 22 0),
 vT 20 24 (.ld false 1 (.s 10)),
 vT 20 25 (vc .gtr 24 0),
 ⟨some (20, true), some 26, .inr (.val true (.s 21) [(.s 23), (.s 25)])⟩,
 vP 27 (.pick (.s 20) (.s 26) (.c (.bool false)))])
 (.cond (.s 27) (.region [vL 28 1 7,
 vL 29 1 8,
 vF 30 11 0,
 vL 31 1 30,
 vP 32 (vc .sub 31 1),
 vP 33 (.bld [(.int .i64 0), (.int .i64 0)] [(0, 1, (.s 29)), (1, 1, (.s 32))]),
 vN 34 191 [(.s 28), (.s 33)],
 ⟨none, none, .inl (.st 1 (.s 7) (.s 34))⟩])
 (.skip)))
 (.draw [vD (vF 35 11 0) 0,
 vD (vL 36 1 35) 1,
 ⟨vL 37 1 9, some [], [.at 8], 0, false⟩,
 vD (vF 38 11 1) 0,
 ⟨vL 39 1 38, some [], [.at 8], 8, false⟩,
 vD (vP 40 (vb .add 37 39)) 28,
 ⟨vL 41 1 10, some [], [.at 8, .at 9], 0, false⟩,
 vD (vF 42 11 2) 0,
 ⟨vL 43 1 42, some [], [.at 8, .at 9], 128, false⟩,
 vD (vP 44 (vb .add 41 43)) 448,
 ⟨⟨none, none, .inl (.st 1 (.s 8) (.s 36))⟩, (some [.at 8]), [], 3, false⟩,
 ⟨⟨none, none, .inl (.st 1 (.s 9) (.s 40))⟩, (some [.at 9]), [], 1087, false⟩,
 ⟨⟨none, none, .inl (.st 1 (.s 10) (.s 44))⟩, (some [.at 10]), [], 4095, false⟩]))
def k166 : Cd :=
  .seq (.region [vP 5 (.box 220 1 (.s 2)),
 vP 6 (.mv (.c (.slice none 0 0)))])
 (.seq (.region [vP 7 (.alloc 131 [(.slice none 0 0)])])
 (.seq (.region [vP 8 (.alloc 3 [(.int .i64 0)]),
 vP 9 (.alloc 3 [(.int .i64 0)]),
 vP 10 (.alloc 3 [(.int .i64 0)]),
 ⟨none, none, .inl (.st 1 (.s 8) (.c (.int .i64 (-1000000000))))⟩,
 ⟨none, none, .inl (.st 1 (.s 9) (vi 0))⟩,
 ⟨none, none, .inl (.st 1 (.s 10) (vi 0))⟩])
 (.seq (.seq (.region [vM 12 0,
 vM 13 1,
 vN 14 190 [(.s 12), (.s 13)]])
 (.block 0 (.rangeF (.s 14) [15] k166l0 k166l1)))
 (.seq (.region [vL 45 1 7,
 vM 6 45])
 (.ret)))))
def k167 : Cd :=
  .seq (.region [vP 4 (.mv (.c (.bool false)))])
 (.seq (.region [vM 5 0,
 vM 4 5])
 (.ret))
def k168 : Cd :=
  .draw [vD (vM 4 0) 0,
 vD (vM 5 1) 0,
 vD (vP 6 (vc .quo 5 64)) 2,
 vD (vP 7 (.nc (.s 4))) 1,
 vD (vF 8 7 0) 9,
 vD (vP 9 (.iaa 33 1 (.s 8) (.s 6))) 31,
 vD (vL 10 1 9) 63,
 vD (vM 11 1) 0,
 vD (vP 12 (vc .rem 11 64)) 128,
 vD (vP 13 (.bin .shl (.c (.int .u64 1)) (.s 12))) 384,
 vD (vP 14 (vb .or 10 13)) 1023,
 vD (vP 15 (.nc (.s 4))) 1,
 vD (vF 16 15 0) 2049,
 vD (vP 17 (.iaa 33 1 (.s 16) (.s 6))) 8191,
 ⟨⟨none, none, .inl (.st 1 (.s 17) (.s 14))⟩, (some [.at 0]), [], 16383, false⟩]
def k169 : Cd :=
  .seq (.region [vP 2 (.mv (vi 0))])
 (.seq (.seq (.region [vM 3 0,
 vP 4 (.bin .eql (.s 3) (.c (.int .u64 0)))])
 (.cond (.s 4) (.seq (.region [vP 2 (.mv (vi 64))])
 (.ret))
 (.skip)))
 (.seq (.region [vM 5 0,
 vM 6 0,
 vP 7 (.neg (.s 6)),
 vP 8 (vb .and 5 7),
 vP 9 (.bin .mul (.s 8) (.c (.int .u64 285870213051353865))),
 vP 10 (.bin .shr (.s 9) (.c (.int .u64 58))),
 vP 11 (.iaa 64 1 (.g 1) (.s 10)),
 vL 12 1 11,
 vP 13 (.cvi .i64 (.s 12)),
 vM 2 13])
 (.ret)))
def k170 : Cd :=
  .seq (.region [vP 4 (.mv (.c (.bool false)))])
 (.seq (.region [vM 5 0,
 vN 6 126 [(.s 5)],
 vM 7 6,
 vT 7 8 (.mv (.s 1)),
 ⟨some (7, true), some 9, .inr (.fn 126 [(.s 8)])⟩,
 vT 7 10 (.not (.s 9)),
 vP 11 (.pick (.s 7) (.s 10) (.c (.bool false))),
 vM 12 11,
 vU 12 13 (.mv (.s 0)),
 vU 12 14 (.mv (.s 1)),
 vU 12 15 (vb .lss 13 14),
 vP 16 (.pick (.s 12) (.c (.bool true)) (.s 15)),
 vM 4 16])
 (.ret))
def k171 : Cd :=
  .seq (.region [vP 2 (.mv (.c (.bool false)))])
 (.seq (.region [vM 3 0,
 vM 4 0,
 vP 5 (vb .neq 3 4),
 vM 2 5])
 (.ret))
def k172 : Cd :=
  .seq (.region [vP 4 (.mv (.c (.int .u64 0))),
 vP 5 (.mv (.c (.int .u64 0)))])
 (.seq (.cond (.c (.bool false)) (.seq (.region [vM 11 0,
 vP 12 (.cvi .u32 (.s 11)),
 vM 13 1,
 vP 14 (.cvi .u32 (.s 13)),
 vN 15 192 [(.s 12), (.s 14)],
 vM 10 15,
 vP 16 (.ex (.s 10) 0),
 vP 17 (.ex (.s 10) 1),
 vM 6 16,
 vM 7 17])
 (.seq (.region [vM 18 6,
 vP 19 (.cvi .u64 (.s 18)),
 vM 20 7,
 vP 21 (.cvi .u64 (.s 20)),
 vM 4 19,
 vM 5 21])
 (.ret)))
 (.skip))
 (.seq (.region [vM 23 0,
 vM 24 1,
 vN 25 193 [(.s 23), (.s 24)],
 vM 22 25,
 vP 26 (.ex (.s 22) 0),
 vP 27 (.ex (.s 22) 1),
 vM 8 26,
 vM 9 27])
 (.seq (.region [vM 28 8,
 vM 29 9,
 vM 4 28,
 vM 5 29])
 (.ret))))
def k174 : Cd :=
  .seq (.region [vP 2 (.mv (vi 0))])
 (.seq (.cond (.c (.bool false)) (.seq (.region [vM 3 0,
 vP 4 (.cvi .u32 (.s 3)),
 vN 5 202 [(.s 4)],
 vM 2 5])
 (.ret))
 (.skip))
 (.seq (.region [vM 6 0,
 vN 7 203 [(.s 6)],
 vM 2 7])
 (.ret)))
def k175 : Cd :=
  .seq (.region [vP 1 (.box 130 5 (.s 0)),
 vP 2 (.mv (.c (.bool false)))])
 (.seq (.region [vF 4 1 0,
 vL 5 1 4,
 vN 6 204 [(.s 5), (vi 1), (vi 99999)],
 vM 7 6,
 vT 7 8 (.fa (.s 1) 1),
 vT 7 9 (.ld false 1 (.s 8)),
 ⟨some (7, true), some 10, .inr (.fn 204 [(.s 9), (vi 0), (vi 99)])⟩,
 vP 11 (.pick (.s 7) (.s 10) (.c (.bool false))),
 vM 12 11,
 vT 12 13 (.fa (.s 1) 2),
 vT 12 14 (.ld false 1 (.s 13)),
 ⟨some (12, true), some 15, .inr (.fn 204 [(.s 14), (vi 0), (vi 2048)])⟩,
 vP 16 (.pick (.s 12) (.s 15) (.c (.bool false))),
 vM 3 16])
 (.seq (.region [vM 17 3,
 vM 18 17,
 vT 18 19 (.fa (.s 1) 3),
 vT 18 20 (.ld false 1 (.s 19)),
 vT 18 21 (.fa (.s 1) 4),
 vT 18 22 (.ld false 1 (.s 21)),
 ⟨some (18, true), some 23, .inr (.fn 204 [(.s 20), (.c (.int .i64 (-100000))), (.s 22)])⟩,
 vP 24 (.pick (.s 18) (.s 23) (.c (.bool false))),
 vM 25 24,
 vT 25 26 (.fa (.s 1) 4),
 vT 25 27 (.ld false 1 (.s 26)),
 vT 25 28 (vc .leq 27 100000),
 vP 29 (.pick (.s 25) (.s 28) (.c (.bool false))),
 vM 2 29])
 (.ret)))
def k176 : Cd :=
  .seq (.region [vP 3 (.box 128 2 (.s 0)),
 vP 6 (.mv (vi 0))])
 (.seq (.seq (.region [vP 9 (.ld true 2 (.s 3)),
 vN 10 155 [(.s 9)],
 vM 7 10])
 (.seq (.region [vM 11 7,
 vP 12 (vc .neq 11 0)])
 (.cond (.s 12) (.seq (.region [vM 13 7,
 vM 6 13])
 (.ret))
 (.skip))))
 (.seq (.region [vP 14 (.ld true 2 (.s 3)),
 vN 15 156 [(.s 14)],
 vM 8 15])
 (.seq (.seq (.region [vM 16 8,
 vM 17 1,
 vN 18 68 [(.s 16), (.s 17)],
 vP 19 (.not (.s 18)),
 vM 20 19,
 vU 20 21 (.mv (.s 8)),
 vU 20 22 (.mv (.s 2)),
 ⟨some (20, false), some 23, .inr (.fn 68 [(.s 21), (.s 22)])⟩,
 vU 20 24 (.not (.s 23)),
 vP 25 (.pick (.s 20) (.c (.bool true)) (.s 24))])
 (.cond (.s 25) (.seq (.region [vP 6 (.mv (vi 3))])
 (.ret))
 (.skip)))
 (.seq (.region [vP 6 (.mv (vi 0))])
 (.ret)))))
def k177 : Cd :=
  .seq (.region [vP 2 (.box 128 2 (.s 0)),
 vP 3 (.box 231 1 (.s 1))])
 (.seq (.region [vP 4 (.alloc 261 [.nilFunc])])
 (.seq (.region [vP 5 (.mkf (.func 205) [] [(.s 2), (.s 3), (.s 4)]),
 ⟨none, none, .inl (.st 1 (.s 4) (.s 5))⟩])
 (.region [vL 6 1 4,
 ⟨none, some 7, .inr (.val false (.s 6) [(.c (.slice none 0 0))])⟩])))
def k178 : Cd :=
  .seq (.region [vP 7 (.mv (.c (.bool false)))])
 (.seq (.region [vM 9 1,
 vL 10 1 2,
 vL 11 1 3,
 vN 12 179 [(.s 9), (.s 10), (.s 11)],
 vP 8 (.alloc 141 [(.int .i64 0), (.int .i64 0)]),
 ⟨none, none, .inl (.st 2 (.s 8) (.s 12))⟩])
 (.seq (.region [vL 13 1 4,
 vP 14 (.ld true 2 (.s 8)),
 vP 15 (.bs 141 2 1 [(.int .i64 0), (.int .i64 0)] [(0, (.s 14))]),
 vP 16 (.app 141 2 16 (.s 13) (.s 15)),
 ⟨none, none, .inl (.st 1 (.s 4) (.s 16))⟩])
 (.seq (.region [vL 17 1 2,
 vL 18 1 3,
 vP 19 (vb .neq 17 18),
 vM 20 19,
 vT 20 21 (.ld true 2 (.s 8)),
 vT 20 22 (.ld true 2 (.g 0)),
 vT 20 23 (.eq true (.cells [.int, .int]) (.s 21) (.s 22)),
 vP 24 (.pick (.s 20) (.s 23) (.c (.bool false))),
 vM 7 24])
 (.ret))))
def k179 : Cd :=
  .seq (.region [vP 6 (.alloc 141 [(.int .i64 0), (.int .i64 0)])])
 (.seq (.seq (.region [vM 10 1,
 vM 11 2,
 vP 12 (vb .eql 10 11)])
 (.cond (.s 12) (.seq (.region [vP 13 (.bld [(.int .i64 0), (.int .i64 0)] []),
 ⟨none, none, .inl (.st 2 (.s 6) (.s 13))⟩])
 (.ret))
 (.skip)))
 (.seq (.region [vM 15 0,
 vM 16 1,
 vM 17 2,
 vN 18 45 [(.s 15), (.s 16), (.s 17)],
 vM 14 18,
 vP 19 (.ex (.s 14) 0),
 vP 20 (.ex (.s 14) 1),
 vP 21 (.ex (.s 14) 2),
 vM 7 19,
 vM 8 20,
 vM 9 21])
 (.seq (.seq (.region [vM 22 9,
 vP 23 (vc .neq 22 0)])
 (.cond (.s 23) (.seq (.region [vP 24 (.ld true 2 (.g 0)),
 ⟨none, none, .inl (.st 2 (.s 6) (.s 24))⟩])
 (.ret))
 (.skip)))
 (.seq (.region [vM 25 7,
 vM 26 8,
 vP 27 (.bld [(.int .i64 0), (.int .i64 0)] [(0, 1, (.s 25)), (1, 1, (.s 26))]),
 ⟨none, none, .inl (.st 2 (.s 6) (.s 27))⟩])
 (.ret)))))
def k180l0 : Cd :=
  .seq (.region [vP 12 (vb .lss 11 10)])
 (.seq (.cond (.s 12) (.skip)
 (.exit 0))
 (.seq (.block 1 (.seq (.region [vI 13 2 9 11,
 vP 14 (.ld true 2 (.s 13)),
 vP 5 (.alloc 141 [(.int .i64 0), (.int .i64 0)]),
 ⟨none, none, .inl (.st 2 (.s 5) (.s 14))⟩])
 (.seq (.region [vM 15 3,
 vP 16 (.len (.s 15)),
 vP 17 (vc .sub 16 1),
 vM 6 17])
 (.seq (.draw [vD (vM 18 6) 0,
 vD (vP 19 (vc .geq 18 0)) 1,
 vD (vM 20 19) 3,
 vD (vT 20 21 (.fa (.s 5) 0)) 7,
 vD (vT 20 22 (.ld false 1 (.s 21))) 15,
 vD (vT 20 23 (.mv (.s 3))) 7,
 vD (vT 20 24 (.mv (.s 6))) 7,
 vD (vT 20 25 (.ias 2 (.s 23) (.s 24))) 103,
 vD (vT 20 26 (.fa (.s 25) 1)) 231,
 vD (vT 20 27 (.ld false 1 (.s 26))) 487,
 vD (vT 20 28 (vc .add 27 1)) 999,
 vD (vT 20 29 (vb .leq 22 28)) 2047,
 vD (vP 30 (.pick (.s 20) (.s 29) (.c (.bool false)))) 4095])
 (.cond (.s 30) (.draw [vD (vM 31 3) 0,
 vD (vM 32 6) 0,
 vD (vM 33 3) 0,
 vD (vM 34 6) 0,
 vD (vI 35 2 33 34) 12,
 vD (vF 36 35 1) 28,
 vD (vL 37 1 36) 60,
 vD (vF 38 5 1) 0,
 vD (vL 39 1 38) 128,
 vD (vP 40 (.mm true (.s 37) (.s 39))) 508,
 vD (vI 41 2 31 32) 1023,
 vD (vF 42 41 1) 2047,
 ⟨⟨none, none, .inl (.st 1 (.s 42) (.s 40))⟩, (some [.at 3]), [], 4095, false⟩])
 (.region [vM 43 3,
 vP 44 (.ld true 2 (.s 5)),
 vP 45 (.bs 141 2 1 [(.int .i64 0), (.int .i64 0)] [(0, (.s 44))]),
 vP 46 (.app 141 2 16 (.s 43) (.s 45)),
 vM 3 46]))))))
 (.region [vP 47 (vc .add 11 1),
 vM 11 47])))
def k180 : Cd :=
  .seq (.region [vP 2 (.mv (.c (.slice none 0 0)))])
 (.seq (.region [vM 7 0,
 vN 8 208 [(.s 7), (.f 209)]])
 (.seq (.region [vP 3 (.mv (.c (.slice none 0 0)))])
 (.seq (.seq (.region [vM 9 0,
 vP 10 (.len (.s 9)),
 vP 11 (.mv (vi 0))])
 (.block 0 (.loop k180l0)))
 (.seq (.region [vM 48 3,
 vM 2 48])
 (.ret)))))
def k181l0 : Cd :=
  .seq (.region [vP 9 (vb .lss 8 7)])
 (.seq (.cond (.s 9) (.skip)
 (.exit 0))
 (.seq (.block 1 (.seq (.region [vM 10 8,
 vM 5 10])
 (.seq (.region [vM 11 1,
 vM 12 0,
 vM 13 5,
 vI 14 2 12 13,
 vP 15 (.ld true 2 (.s 14)),
 ⟨none, some 16, .inr (.val false (.s 11) [(.s 15)])⟩])
 (.cond (.s 16) (.seq (.region [vM 17 5,
 vM 4 17])
 (.ret))
 (.skip)))))
 (.region [vP 18 (vc .add 8 1),
 vM 8 18])))
def k181 : Cd :=
  .seq (.region [vP 4 (.mv (vi 0))])
 (.seq (.seq (.region [vM 6 0,
 vP 7 (.len (.s 6)),
 vP 8 (.mv (vi 0))])
 (.block 0 (.loop k181l0)))
 (.seq (.region [vP 4 (.mv (.c (.int .i64 (-1))))])
 (.ret)))
def k182l0 : Cd :=
  .seq (.region [vP 28 (vb .lss 27 26)])
 (.seq (.cond (.s 28) (.skip)
 (.exit 2))
 (.seq (.block 3 (.seq (.region [vI 29 5 25 27,
 vP 30 (.ld true 5 (.s 29)),
 vP 6 (.alloc 70 [(.int .i64 0), (.int .i64 0), (.int .i64 0), (.int .i64 0), (.int .i64 0)]),
 ⟨none, none, .inl (.st 5 (.s 6) (.s 30))⟩])
 (.seq (.region [vF 31 6 4,
 vL 32 1 31,
 vF 33 1 0,
 vL 34 1 33,
 vP 35 (vb .neq 32 34),
 vM 36 35,
 vU 36 37 (.ld true 5 (.s 6)),
 ⟨some (36, false), some 38, .inr (.fn 98 [(.s 37)])⟩,
 vU 36 39 (vc .neq 38 0),
 vP 40 (.pick (.s 36) (.c (.bool true)) (.s 39))])
 (.cond (.s 40) (.seq (.region [vP 2 (.mv (vi 50))])
 (.ret))
 (.skip)))))
 (.region [vP 41 (vc .add 27 1),
 vM 27 41])))
def k182l1 : Cd :=
  .seq (.region [vP 22 (vb .lss 21 20)])
 (.seq (.cond (.s 22) (.skip)
 (.exit 0))
 (.seq (.block 1 (.seq (.region [vI 23 1 19 21,
 vL 24 1 23,
 vM 4 24])
 (.seq (.region [vM 25 4,
 vP 26 (.len (.s 25)),
 vP 27 (.mv (vi 0))])
 (.block 2 (.loop k182l0)))))
 (.region [vP 42 (vc .add 21 1),
 vM 21 42])))
def k182 : Cd :=
  .seq (.region [vP 1 (.box 235 2 (.s 0)),
 vP 2 (.mv (vi 0))])
 (.seq (.seq (.region [vF 7 1 0,
 vL 8 1 7,
 vN 9 187 [(.s 8), (vi 1), (vi 99999)],
 vP 10 (.not (.s 9)),
 vM 11 10,
 vU 11 12 (.fa (.s 1) 1),
 vU 11 13 (.ld false 1 (.s 12)),
 vU 11 14 (.len (.s 13)),
 ⟨some (11, false), some 15, .inr (.fn 187 [(.s 14), (vi 1), (vi 60)])⟩,
 vU 11 16 (.not (.s 15)),
 vP 17 (.pick (.s 11) (.c (.bool true)) (.s 16))])
 (.cond (.s 17) (.seq (.region [vP 2 (.mv (vi 50))])
 (.ret))
 (.skip)))
 (.seq (.seq (.region [vF 18 1 1,
 vL 19 1 18,
 vP 20 (.len (.s 19)),
 vP 21 (.mv (vi 0))])
 (.block 0 (.loop k182l1)))
 (.seq (.region [vP 2 (.mv (vi 0))])
 (.ret))))
def k183l0 : Cd :=
  .seq (.region [vP 10 (vb .lss 9 8)])
 (.seq (.cond (.s 10) (.skip)
 (.exit 0))
 (.seq (.block 1 (.seq (.region [vI 11 1 7 9,
 vL 12 1 11,
 vM 5 12])
 (.region [vM 13 3,
 vM 14 5,
 vP 15 (.len (.s 14)),
 vP 16 (.mm true (.s 13) (.s 15)),
 vM 3 16])))
 (.region [vP 17 (vc .add 9 1),
 vM 9 17])))
def k183 : Cd :=
  .seq (.region [vP 1 (.box 235 2 (.s 0)),
 vP 2 (.mv (vi 0))])
 (.seq (.region [vP 3 (.mv (vi 0))])
 (.seq (.seq (.region [vF 6 1 1,
 vL 7 1 6,
 vP 8 (.len (.s 7)),
 vP 9 (.mv (vi 0))])
 (.block 0 (.loop k183l0)))
 (.seq (.region [vM 18 3,
 vM 2 18])
 (.ret))))
def k184l0 : Cd :=
  .seq (.region [vP 9 (vb .lss 8 7)])
 (.seq (.cond (.s 9) (.skip)
 (.exit 0))
 (.seq (.block 1 (.seq (.region [vM 10 8,
 vM 5 10])
 (.seq (.region [vM 11 1,
 vM 12 0,
 vM 13 5,
 vI 14 5 12 13,
 vP 15 (.ld true 5 (.s 14)),
 ⟨none, some 16, .inr (.val false (.s 11) [(.s 15)])⟩])
 (.cond (.s 16) (.seq (.region [vM 17 5,
 vM 4 17])
 (.ret))
 (.skip)))))
 (.region [vP 18 (vc .add 8 1),
 vM 8 18])))
def k184 : Cd :=
  .seq (.region [vP 4 (.mv (vi 0))])
 (.seq (.seq (.region [vM 6 0,
 vP 7 (.len (.s 6)),
 vP 8 (.mv (vi 0))])
 (.block 0 (.loop k184l0)))
 (.seq (.region [vP 4 (.mv (.c (.int .i64 (-1))))])
 (.ret)))
def k185 : Cd :=
  .seq (.region [vP 5 (.mv (.c (.bool false)))])
 (.seq (.region [vL 6 1 2,
 vM 7 0,
 vP 8 (.bs 40 1 1 [(.slice none 0 0)] [(0, (.s 7))]),
 vP 9 (.app 40 1 24 (.s 6) (.s 8)),
 ⟨none, none, .inl (.st 1 (.s 2) (.s 9))⟩])
 (.seq (.region [vP 5 (.mv (.c (.bool true)))])
 (.ret)))
def k186 : Cd :=
  .seq (.region [vP 4 (.mv (.c (.bool false)))])
 (.seq (.region [vM 5 0,
 vM 6 5,
 vT 6 7 (.mv (.s 1)),
 vT 6 8 (.not (.s 7)),
 vP 9 (.pick (.s 6) (.s 8) (.c (.bool false))),
 vM 4 9])
 (.ret))
def k187 : Cd :=
  .seq (.region [vP 6 (.mv (.c (.bool false)))])
 (.seq (.region [vM 7 1,
 vM 8 0,
 vP 9 (vb .leq 7 8),
 vM 10 9,
 vT 10 11 (.mv (.s 0)),
 vT 10 12 (.mv (.s 2)),
 vT 10 13 (vb .leq 11 12),
 vP 14 (.pick (.s 10) (.s 13) (.c (.bool false))),
 vM 6 14])
 (.ret))
def k188l0 : Cd :=
  .seq (.region [vP 14 (vb .lss 13 12)])
 (.seq (.cond (.s 14) (.skip)
 (.exit 0))
 (.seq (.block 1 (.seq (.region [vM 15 13,
 vI 16 1 11 13,
 vL 17 1 16,
 vM 6 15,
 vM 7 17])
 (.region [vM 18 5,
 vF 19 2 1,
 vL 20 1 19,
 vM 21 6,
 vI 22 2 20 21,
 vF 23 22 1,
 vL 24 1 23,
 vM 25 7,
 vI 26 1 24 25,
 vL 27 1 26,
 vP 28 (.app 70 5 40 (.s 18) (.s 27)),
 vM 5 28])))
 (.region [vP 29 (vc .add 13 1),
 vM 13 29])))
def k188 : Cd :=
  .seq (.region [vP 2 (.box 128 2 (.s 0)),
 vP 4 (.mv (.c (.slice none 0 0)))])
 (.seq (.region [vF 8 2 0,
 vL 9 1 8,
 vN 10 79 [(.s 9)],
 vM 5 10])
 (.seq (.seq (.region [vM 11 1,
 vP 12 (.len (.s 11)),
 vP 13 (.mv (vi 0))])
 (.block 0 (.loop k188l0)))
 (.seq (.region [vM 30 5,
 vM 4 30])
 (.ret))))
def k189l0 : Cd :=
  .seq (.region [vP 12 (vb .lss 11 10)])
 (.seq (.cond (.s 12) (.skip)
 (.exit 0))
 (.seq (.block 1 (.seq (.region [vI 13 4 9 11,
 vP 14 (.ldv true 4 (.s 13)),
 vP 8 (.alloc 213 [(.int .i64 0), (.int .i64 0), (.int .i64 0), (.bool false)]),
 ⟨none, none, .inl (.st 4 (.s 8) (.s 14))⟩])
 (.seq (.draw [vD (vF 15 4 0) 0,
 vD (vF 16 15 0) 1,
 vD (vL 17 1 16) 3,
 vD (vF 18 8 0) 0,
 vD (vF 19 18 1) 8,
 vD (vL 20 1 19) 24,
 vD (vF 21 3 5) 0,
 vD (vL 22 1 21) 64,
 vD (vF 23 8 2) 0,
 vD (vL 24 1 23) 256,
 vD (vI 25 1 22 24) 960,
 vD (vL 26 1 25) 1984,
 vD (vF 27 4 2) 0,
 vD (vL 28 1 27) 4096,
 vD (vI 29 1 26 28) 16320,
 vD (vL 30 1 29) 32704,
 vD (vP 31 (vb .add 20 30)) 65528,
 vD (vP 32 (vb .gtr 17 31)) 131071,
 vD (vM 33 32) 262143,
 vD (vU 33 34 (.fa (.s 8) 0)) 524287,
 vD (vU 33 35 (.fa (.s 34) 0)) 1048575,
 vD (vU 33 36 (.ld false 1 (.s 35))) 2097151,
 vD (vU 33 37 (.fa (.s 4) 0)) 524287,
 vD (vU 33 38 (.fa (.s 37) 1)) 4718591,
 vD (vU 33 39 (.ld false 1 (.s 38))) 13107199,
 vD (vU 33 40 (.fa (.s 3) 5)) 524287,
 vD (vU 33 41 (.ld false 1 (.s 40))) 34078719,
 vD (vU 33 42 (.fa (.s 4) 2)) 524287,
 vD (vU 33 43 (.ld false 1 (.s 42))) 134742015,
 vD (vU 33 44 (.ias 1 (.s 41) (.s 43))) 503840767,
 vD (vU 33 45 (.ld false 1 (.s 44))) 1040711679,
 vD (vU 33 46 (.fa (.s 8) 2)) 524287,
 vD (vU 33 47 (.ld false 1 (.s 46))) 2148007935,
 vD (vU 33 48 (.ias 1 (.s 45) (.s 47))) 8556904447,
 vD (vU 33 49 (.ld false 1 (.s 48))) 17146839039,
 vD (vU 33 50 (vb .add 39 49)) 34356068351,
 vD (vU 33 51 (vb .gtr 36 50)) 68719476735,
 vD (vP 52 (.pick (.s 33) (.c (.bool true)) (.s 51))) 137438953471])
 (.cond (.s 52) (.seq (.region [vP 6 (.mv (.c (.bool false)))])
 (.ret))
 (.skip)))))
 (.region [vP 53 (vc .add 11 1),
 vM 11 53])))
def k189 : Cd :=
  .seq (.region [vP 3 (.box 183 6 (.s 0)),
 vP 4 (.box 213 4 (.s 1)),
 vP 6 (.mv (.c (.bool false)))])
 (.seq (.seq (.region [vM 9 2,
 vP 10 (.len (.s 9)),
 vP 11 (.mv (vi 0))])
 (.block 0 (.loop k189l0)))
 (.seq (.region [vP 6 (.mv (.c (.bool true)))])
 (.ret)))
def k190l0 : Cd :=
  .seq (.region [vP 14 (vb .lss 13 12)])
 (.seq (.cond (.s 14) (.skip)
 (.exit 0))
 (.seq (.block 1 (.seq (.region [vI 15 2 11 13,
 vP 16 (.ld true 2 (.s 15)),
 vP 7 (.alloc 141 [(.int .i64 0), (.int .i64 0)]),
 ⟨none, none, .inl (.st 2 (.s 7) (.s 16))⟩])
 (.region [vM 17 5,
 vF 18 7 0,
 vL 19 1 18,
 vP 20 (.bld [(.int .i64 0), (.int .i64 0), (.int .i64 0)] [(0, 1, (.s 19)), (1, 1, (vi 1)), (2, 1, (vi 0))]),
 vF 21 7 1,
 vL 22 1 21,
 vP 23 (vc .add 22 1),
 vP 24 (.bld [(.int .i64 0), (.int .i64 0), (.int .i64 0)] [(0, 1, (.s 23)), (1, 1, (.c (.int .i64 (-1)))), (2, 1, (vi 0))]),
 vP 25 (.bs 245 3 2 [(.int .i64 0), (.int .i64 0), (.int .i64 0)] [(0, (.s 20)), (1, (.s 24))]),
 vP 26 (.app 245 3 24 (.s 17) (.s 25)),
 vM 5 26])))
 (.region [vP 27 (vc .add 13 1),
 vM 13 27])))
def k190l1 : Cd :=
  .seq (.region [vP 32 (vb .lss 31 30)])
 (.seq (.cond (.s 32) (.skip)
 (.exit 2))
 (.seq (.block 3 (.seq (.region [vI 33 2 29 31,
 vP 34 (.ld true 2 (.s 33)),
 vP 9 (.alloc 141 [(.int .i64 0), (.int .i64 0)]),
 ⟨none, none, .inl (.st 2 (.s 9) (.s 34))⟩])
 (.region [vM 35 5,
 vF 36 9 0,
 vL 37 1 36,
 vP 38 (.bld [(.int .i64 0), (.int .i64 0), (.int .i64 0)] [(0, 1, (.s 37)), (1, 1, (vi 0)), (2, 1, (vi 1))]),
 vF 39 9 1,
 vL 40 1 39,
 vP 41 (vc .add 40 1),
 vP 42 (.bld [(.int .i64 0), (.int .i64 0), (.int .i64 0)] [(0, 1, (.s 41)), (1, 1, (vi 0)), (2, 1, (.c (.int .i64 (-1))))]),
 vP 43 (.bs 245 3 2 [(.int .i64 0), (.int .i64 0), (.int .i64 0)] [(0, (.s 38)), (1, (.s 42))]),
 vP 44 (.app 245 3 24 (.s 35) (.s 43)),
 vM 5 44])))
 (.region [vP 45 (vc .add 31 1),
 vM 31 45])))
def k190 : Cd :=
  .seq (.region [vP 4 (.mv (.c .nilFunc))])
 (.seq (.region [vP 5 (.mv (.c (.slice none 0 0)))])
 (.seq (.seq (.region [vM 10 0,
 vN 11 153 [(.s 10)],
 vP 12 (.len (.s 11)),
 vP 13 (.mv (vi 0))])
 (.block 0 (.loop k190l0)))
 (.seq (.seq (.region [vM 28 1,
 vN 29 153 [(.s 28)],
 vP 30 (.len (.s 29)),
 vP 31 (.mv (vi 0))])
 (.block 2 (.loop k190l1)))
 (.seq (.region [vM 46 5,
 vN 47 210 [(.s 46), (.f 211)]])
 (.seq (.region [vM 48 5,
 vN 49 212 [(.s 48)],
 vM 4 49])
 (.ret))))))
def k191 : Cd :=
  .seq (.region [vP 3 (.box 141 2 (.s 1)),
 vP 4 (.mv (.c (.slice none 0 0)))])
 (.seq (.seq (.region [vM 6 0,
 vP 7 (.len (.s 6)),
 vP 8 (vc .sub 7 1),
 vM 5 8])
 (.seq (.draw [vD (vM 9 5) 0,
 vD (vP 10 (vc .geq 9 0)) 1,
 vD (vM 11 10) 3,
 vD (vT 11 12 (.mv (.s 0))) 7,
 vD (vT 11 13 (.mv (.s 5))) 7,
 vD (vT 11 14 (.ias 2 (.s 12) (.s 13))) 31,
 vD (vT 11 15 (.fa (.s 14) 1)) 63,
 vD (vT 11 16 (.ld false 1 (.s 15))) 127,
 vD (vT 11 17 (vc .add 16 1)) 255,
 vD (vT 11 18 (.fa (.s 3) 0)) 7,
 vD (vT 11 19 (.ld false 1 (.s 18))) 519,
 vD (vT 11 20 (vb .eql 17 19)) 2047,
 vD (vP 21 (.pick (.s 11) (.s 20) (.c (.bool false)))) 4095])
 (.cond (.s 21) (.seq (.region [vM 22 0,
 vM 23 5,
 vF 24 3 1,
 vL 25 1 24,
 vI 26 2 22 23,
 vF 27 26 1,
 ⟨none, none, .inl (.st 1 (.s 27) (.s 25))⟩])
 (.seq (.region [vM 28 0,
 vM 4 28])
 (.ret)))
 (.skip))))
 (.seq (.region [vM 29 0,
 vP 30 (.ld true 2 (.s 3)),
 vP 31 (.bs 141 2 1 [(.int .i64 0), (.int .i64 0)] [(0, (.s 30))]),
 vP 32 (.app 141 2 16 (.s 29) (.s 31)),
 vM 4 32])
 (.ret)))
def k192 : Cd :=
  .seq (.region [vP 4 (.mv (.c (.int .u32 0))),
 vP 5 (.mv (.c (.int .u32 0)))])
 (.seq (.region [vM 7 0,
 vP 8 (.cvi .u64 (.s 7)),
 vM 9 1,
 vP 10 (.cvi .u64 (.s 9)),
 vP 11 (vb .mul 8 10),
 vM 6 11])
 (.seq (.region [vM 12 6,
 vP 13 (.bin .shr (.s 12) (.c (.int .u64 32))),
 vP 14 (.cvi .u32 (.s 13)),
 vM 15 6,
 vP 16 (.cvi .u32 (.s 15)),
 vM 4 14,
 vM 5 16])
 (.ret)))
def k193 : Cd :=
  .seq (.region [vP 4 (.mv (.c (.int .u64 0))),
 vP 5 (.mv (.c (.int .u64 0)))])
 (.seq (.region [vM 14 0,
 vP 15 (.bin .and (.s 14) (.c (.int .u64 4294967295))),
 vM 6 15])
 (.seq (.region [vM 16 0,
 vP 17 (.bin .shr (.s 16) (.c (.int .u64 32))),
 vM 7 17])
 (.seq (.region [vM 18 1,
 vP 19 (.bin .and (.s 18) (.c (.int .u64 4294967295))),
 vM 8 19])
 (.seq (.region [vM 20 1,
 vP 21 (.bin .shr (.s 20) (.c (.int .u64 32))),
 vM 9 21])
 (.seq (.region [vM 22 6,
 vM 23 8,
 vP 24 (vb .mul 22 23),
 vM 10 24])
 (.seq (.region [vM 25 7,
 vM 26 8,
 vP 27 (vb .mul 25 26),
 vM 28 10,
 vP 29 (.bin .shr (.s 28) (.c (.int .u64 32))),
 vP 30 (vb .add 27 29),
 vM 11 30])
 (.seq (.region [vM 31 11,
 vP 32 (.bin .and (.s 31) (.c (.int .u64 4294967295))),
 vM 12 32])
 (.seq (.region [vM 33 11,
 vP 34 (.bin .shr (.s 33) (.c (.int .u64 32))),
 vM 13 34])
 (.seq (.region [vM 35 12,
 vM 36 6,
 vM 37 9,
 vP 38 (vb .mul 36 37),
 vP 39 (vb .add 35 38),
 vM 12 39])
 (.seq (.region [vM 40 7,
 vM 41 9,
 vP 42 (vb .mul 40 41),
 vM 43 13,
 vP 44 (vb .add 42 43),
 vM 45 12,
 vP 46 (.bin .shr (.s 45) (.c (.int .u64 32))),
 vP 47 (vb .add 44 46),
 vM 4 47])
 (.seq (.region [vM 48 0,
 vM 49 1,
 vP 50 (vb .mul 48 49),
 vM 5 50])
 (.ret))))))))))))
def k202 : Cd :=
  .seq (.region [vP 2 (.mv (vi 0))])
 (.seq (.seq (.region [vM 3 0,
 vP 4 (.bin .geq (.s 3) (.c (.int .u32 65536)))])
 (.cond (.s 4) (.seq (.region [vM 5 0,
 vP 6 (.bin .shr (.s 5) (.c (.int .u64 16))),
 vM 0 6])
 (.region [vP 2 (.mv (vi 16))]))
 (.skip)))
 (.seq (.seq (.region [vM 7 0,
 vP 8 (.bin .geq (.s 7) (.c (.int .u32 256)))])
 (.cond (.s 8) (.seq (.region [vM 9 0,
 vP 10 (.bin .shr (.s 9) (.c (.int .u64 8))),
 vM 0 10])
 (.region [vM 11 2,
 vP 12 (vc .add 11 8),
 vM 2 12]))
 (.skip)))
 (.seq (.region [vM 13 2,
 vM 14 0,
 vP 15 (.cvi .u8 (.s 14)),
 ⟨none, some 16, .inl (.ixs (.c (.string ⟨#[0, 1, 2, 2, 3, 3, 3, 3, 4, 4, 4, 4, 4, 4, 4, 4, 5, 5, 5, 5, 5, 5, 5, 5, 5, 5, 5, 5, 5, 5, 5, 5, 6, 6, 6, 6, 6, 6, 6, 6, 6, 6, 6, 6, 6, 6, 6, 6, 6, 6, 6, 6, 6, 6, 6, 6, 6, 6, 6, 6, 6, 6, 6, 6, 7, 7, 7, 7, 7, 7, 7, 7, 7, 7, 7, 7, 7, 7, 7, 7, 7, 7, 7, 7, 7, 7, 7, 7, 7, 7, 7, 7, 7, 7, 7, 7, 7, 7, 7, 7, 7, 7, 7, 7, 7, 7, 7, 7, 7, 7, 7, 7, 7, 7, 7, 7, 7, 7, 7, 7, 7, 7, 7, 7, 7, 7, 7, 7, 8, 8, 8, 8, 8, 8, 8, 8, 8, 8, 8, 8, 8, 8, 8, 8, 8, 8, 8, 8, 8, 8, 8, 8, 8, 8, 8, 8, 8, 8, 8, 8, 8, 8, 8, 8, 8, 8, 8, 8, 8, 8, 8, 8, 8, 8, 8, 8, 8, 8, 8, 8, 8, 8, 8, 8, 8, 8, 8, 8, 8, 8, 8, 8, 8, 8, 8, 8, 8, 8, 8, 8, 8, 8, 8, 8, 8, 8, 8, 8, 8, 8, 8, 8, 8, 8, 8, 8, 8, 8, 8, 8, 8, 8, 8, 8, 8, 8, 8, 8, 8, 8, 8, 8, 8, 8, 8, 8, 8, 8, 8, 8, 8, 8, 8, 8, 8, 8, 8, 8, 8, 8, 8, 8, 8, 8, 8, 8]⟩)) (.s 15))⟩,
 vP 17 (.cvi .i64 (.s 16)),
 vP 18 (vb .add 13 17),
 vM 2 18])
 (.ret))))
def k203 : Cd :=
  .seq (.region [vP 2 (.mv (vi 0))])
 (.seq (.seq (.region [vM 3 0,
 vP 4 (.bin .geq (.s 3) (.c (.int .u64 4294967296)))])
 (.cond (.s 4) (.seq (.region [vM 5 0,
 vP 6 (.bin .shr (.s 5) (.c (.int .u64 32))),
 vM 0 6])
 (.region [vP 2 (.mv (vi 32))]))
 (.skip)))
 (.seq (.seq (.region [vM 7 0,
 vP 8 (.bin .geq (.s 7) (.c (.int .u64 65536)))])
 (.cond (.s 8) (.seq (.region [vM 9 0,
 vP 10 (.bin .shr (.s 9) (.c (.int .u64 16))),
 vM 0 10])
 (.region [vM 11 2,
 vP 12 (vc .add 11 16),
 vM 2 12]))
 (.skip)))
 (.seq (.seq (.region [vM 13 0,
 vP 14 (.bin .geq (.s 13) (.c (.int .u64 256)))])
 (.cond (.s 14) (.seq (.region [vM 15 0,
 vP 16 (.bin .shr (.s 15) (.c (.int .u64 8))),
 vM 0 16])
 (.region [vM 17 2,
 vP 18 (vc .add 17 8),
 vM 2 18]))
 (.skip)))
 (.seq (.region [vM 19 2,
 vM 20 0,
 vP 21 (.cvi .u8 (.s 20)),
 ⟨none, some 22, .inl (.ixs (.c (.string ⟨#[0, 1, 2, 2, 3, 3, 3, 3, 4, 4, 4, 4, 4, 4, 4, 4, 5, 5, 5, 5, 5, 5, 5, 5, 5, 5, 5, 5, 5, 5, 5, 5, 6, 6, 6, 6, 6, 6, 6, 6, 6, 6, 6, 6, 6, 6, 6, 6, 6, 6, 6, 6, 6, 6, 6, 6, 6, 6, 6, 6, 6, 6, 6, 6, 7, 7, 7, 7, 7, 7, 7, 7, 7, 7, 7, 7, 7, 7, 7, 7, 7, 7, 7, 7, 7, 7, 7, 7, 7, 7, 7, 7, 7, 7, 7, 7, 7, 7, 7, 7, 7, 7, 7, 7, 7, 7, 7, 7, 7, 7, 7, 7, 7, 7, 7, 7, 7, 7, 7, 7, 7, 7, 7, 7, 7, 7, 7, 7, 8, 8, 8, 8, 8, 8, 8, 8, 8, 8, 8, 8, 8, 8, 8, 8, 8, 8, 8, 8, 8, 8, 8, 8, 8, 8, 8, 8, 8, 8, 8, 8, 8, 8, 8, 8, 8, 8, 8, 8, 8, 8, 8, 8, 8, 8, 8, 8, 8, 8, 8, 8, 8, 8, 8, 8, 8, 8, 8, 8, 8, 8, 8, 8, 8, 8, 8, 8, 8, 8, 8, 8, 8, 8, 8, 8, 8, 8, 8, 8, 8, 8, 8, 8, 8, 8, 8, 8, 8, 8, 8, 8, 8, 8, 8, 8, 8, 8, 8, 8, 8, 8, 8, 8, 8, 8, 8, 8, 8, 8, 8, 8, 8, 8, 8, 8, 8, 8, 8, 8, 8, 8, 8, 8, 8, 8, 8, 8]⟩)) (.s 21))⟩,
 vP 23 (.cvi .i64 (.s 22)),
 vP 24 (vb .add 19 23),
 vM 2 24])
 (.ret)))))
def k204 : Cd :=
  .seq (.region [vP 6 (.mv (.c (.bool false)))])
 (.seq (.region [vM 7 1,
 vM 8 0,
 vP 9 (vb .leq 7 8),
 vM 10 9,
 vT 10 11 (.mv (.s 0)),
 vT 10 12 (.mv (.s 2)),
 vT 10 13 (vb .leq 11 12),
 vP 14 (.pick (.s 10) (.s 13) (.c (.bool false))),
 vM 6 14])
 (.ret))
def k205l0 : Cd :=
  .seq (.region [vP 34 (vb .lss 33 32)])
 (.seq (.cond (.s 34) (.skip)
 (.exit 0))
 (.seq (.block 1 (.seq (.region [vM 35 33,
 vM 7 35])
 (.seq (.draw [⟨vL 36 1 3, some [], [.at 7, .at 0], 0, false⟩,
 vD (vM 37 7) 0,
 vD (vM 38 0) 0,
 ⟨vN 39 207 [(.s 37), (.s 38)], (some [.at 7, .at 0]), [], 6, false⟩,
 ⟨⟨none, some 40, .inr (.val false (.s 36) [(.s 39)])⟩, none, [], 15, false⟩,
 vD (vP 41 (.not (.s 40))) 31])
 (.cond (.s 41) (.seq (.region [vP 5 (.mv (.c (.bool false)))])
 (.ret))
 (.skip)))))
 (.region [vP 42 (vc .add 33 1),
 vM 33 42])))
def k205 : Cd :=
  .seq (.region [vP 5 (.mv (.c (.bool false)))])
 (.seq (.region [vP 8 (.ld true 2 (.s 1)),
 vM 9 0,
 vN 10 188 [(.s 8), (.s 9)],
 vM 6 10])
 (.seq (.seq (.region [vM 11 6,
 vN 12 206 [(.s 11)],
 vP 13 (.len (.s 12)),
 vP 14 (vc .gtr 13 0)])
 (.cond (.s 14) (.seq (.region [vP 5 (.mv (.c (.bool true)))])
 (.ret))
 (.skip)))
 (.seq (.seq (.region [vM 15 0,
 vP 16 (.len (.s 15)),
 vF 17 1 1,
 vL 18 1 17,
 vP 19 (.len (.s 18)),
 vP 20 (vb .eql 16 19)])
 (.cond (.s 20) (.seq (.region [vL 21 1 2,
 vM 22 0,
 vM 23 6,
 ⟨none, some 24, .inr (.val false (.s 21) [(.s 22), (.s 23)])⟩,
 vM 5 24])
 (.ret))
 (.skip)))
 (.seq (.seq (.region [vF 25 1 1,
 vL 26 1 25,
 vM 27 0,
 vP 28 (.len (.s 27)),
 vI 29 2 26 28,
 vF 30 29 1,
 vL 31 1 30,
 vP 32 (.len (.s 31)),
 vP 33 (.mv (vi 0))])
 (.block 0 (.loop k205l0)))
 (.seq (.region [vP 5 (.mv (.c (.bool true)))])
 (.ret))))))
def k206 : Cd :=
  .seq (.region [vP 2 (.mv (.c (.slice none 0 0)))])
 (.seq (.region [vM 6 0,
 vN 7 8 [(.s 6)],
 vM 5 7,
 vP 8 (.ex (.s 5) 0),
 vP 9 (.ex (.s 5) 1),
 vM 3 8,
 vM 4 9])
 (.seq (.region [vM 10 3,
 vM 2 10])
 (.ret)))
def k207 : Cd :=
  .seq (.region [vP 4 (.mv (.c (.slice none 0 0)))])
 (.seq (.region [vM 6 1,
 vP 7 (.len (.s 6)),
 vP 8 (vc .add 7 1),
 vP 9 (.mks 3 1 8 [(.int .i64 0)] (.s 8) (.s 8)),
 vM 5 9])
 (.seq (.region [vM 10 5,
 vM 11 1,
 vP 12 (.cpy 1 (.s 10) (.s 11))])
 (.seq (.region [vM 13 5,
 vM 14 1,
 vP 15 (.len (.s 14)),
 vM 16 0,
 vI 17 1 13 15,
 ⟨none, none, .inl (.st 1 (.s 17) (.s 16))⟩])
 (.seq (.region [vM 18 5,
 vM 4 18])
 (.ret)))))
def k208 : Cd :=
  .seq (.region [vM 5 0,
 vP 6 (.len (.s 5)),
 vM 4 6])
 (.region [vM 7 0,
 vM 8 4,
 vM 9 4,
 vP 10 (.cvi .u64 (.s 9)),
 vN 11 174 [(.s 10)],
 vM 12 1,
 vN 13 218 [(.s 7), (vi 0), (.s 8), (.s 11), (.s 12)]])
def k209 : Cd :=
  .seq (.region [vP 2 (.box 141 2 (.s 0)),
 vP 3 (.box 141 2 (.s 1)),
 vP 4 (.mv (vi 0))])
 (.seq (.region [vF 5 2 0,
 vL 6 1 5,
 vF 7 3 0,
 vL 8 1 7,
 vN 9 86 [(.s 6), (.s 8)],
 vM 4 9])
 (.ret))
def k210 : Cd :=
  .seq (.region [vM 5 0,
 vP 6 (.len (.s 5)),
 vM 4 6])
 (.region [vM 7 0,
 vM 8 4,
 vM 9 4,
 vP 10 (.cvi .u64 (.s 9)),
 vN 11 174 [(.s 10)],
 vM 12 1,
 vN 13 219 [(.s 7), (vi 0), (.s 8), (.s 11), (.s 12)]])
def k211 : Cd :=
  .seq (.region [vP 2 (.box 245 3 (.s 0)),
 vP 3 (.box 245 3 (.s 1)),
 vP 4 (.mv (vi 0))])
 (.seq (.region [vF 5 2 0,
 vL 6 1 5,
 vF 7 3 0,
 vL 8 1 7,
 vN 9 86 [(.s 6), (.s 8)],
 vM 4 9])
 (.ret))
def k212 : Cd :=
  .seq (.region [vP 1 (.box 266 1 (.s 0)),
 vP 2 (.mv (.c .nilFunc))])
 (.seq (.region [vP 3 (.mkf (.func 220) [] [(.s 1)]),
 vM 2 3])
 (.ret))
def k214 : Cd :=
  .seq (.region [vP 2 (.mv (.c (.int .u64 0)))])
 (.seq (.region [vM 3 0,
 vP 4 (.cvi .u64 (.s 3)),
 vN 5 174 [(.s 4)],
 vP 6 (.bin .shl (.c (.int .u64 1)) (.s 5)),
 vM 2 6])
 (.ret))
def k215 : Cd :=
  .seq (.region [vP 2 (.mv (.c (.int .u64 0)))])
 (.seq (.draw [vD (vM 3 0) 0,
 vD (vP 4 (.nc (.s 3))) 1,
 vD (vL 5 1 4) 3,
 vD (vM 6 0) 0,
 vD (vP 7 (.nc (.s 6))) 8,
 vD (vL 8 1 7) 24,
 vD (vP 9 (.bin .shl (.s 8) (.c (.int .u64 13)))) 56,
 vD (vP 10 (vb .xor 5 9)) 127,
 vD (vP 11 (.nc (.s 3))) 255,
 ⟨⟨none, none, .inl (.st 1 (.s 11) (.s 10))⟩, (some [.at 0]), [], 511, false⟩])
 (.seq (.draw [vD (vM 12 0) 0,
 vD (vP 13 (.nc (.s 12))) 1,
 vD (vL 14 1 13) 3,
 vD (vM 15 0) 0,
 vD (vP 16 (.nc (.s 15))) 8,
 vD (vL 17 1 16) 24,
 vD (vP 18 (.bin .shr (.s 17) (.c (.int .u64 7)))) 56,
 vD (vP 19 (vb .xor 14 18)) 127,
 vD (vP 20 (.nc (.s 12))) 255,
 ⟨⟨none, none, .inl (.st 1 (.s 20) (.s 19))⟩, (some [.at 0]), [], 511, false⟩])
 (.seq (.draw [vD (vM 21 0) 0,
 vD (vP 22 (.nc (.s 21))) 1,
 vD (vL 23 1 22) 3,
 vD (vM 24 0) 0,
 vD (vP 25 (.nc (.s 24))) 8,
 vD (vL 26 1 25) 24,
 vD (vP 27 (.bin .shl (.s 26) (.c (.int .u64 17)))) 56,
 vD (vP 28 (vb .xor 23 27)) 127,
 vD (vP 29 (.nc (.s 21))) 255,
 ⟨⟨none, none, .inl (.st 1 (.s 29) (.s 28))⟩, (some [.at 0]), [], 511, false⟩])
 (.seq (.region [vM 30 0,
 vP 31 (.nc (.s 30)),
 vL 32 1 31,
 vM 2 32])
 (.ret)))))
def k218l0 : Cd :=
  .block 1 (.seq (.region [vM 21 2,
 vM 22 1,
 vP 23 (vb .sub 21 22),
 vM 12 23])
 (.seq (.seq (.region [vM 24 12,
 vP 25 (vc .leq 24 12)])
 (.cond (.s 25) (.seq (.region [vM 26 0,
 vM 27 1,
 vM 28 2,
 vM 29 4,
 vN 30 222 [(.s 26), (.s 27), (.s 28), (.s 29)]])
 (.ret))
 (.skip)))
 (.seq (.seq (.region [vM 31 3,
 vP 32 (vc .eql 31 0)])
 (.cond (.s 32) (.seq (.region [vM 33 0,
 vM 34 1,
 vM 35 2,
 vM 36 4,
 vN 37 223 [(.s 33), (.s 34), (.s 35), (.s 36)]])
 (.ret))
 (.skip)))
 (.seq (.seq (.region [vM 38 10,
 vP 39 (.not (.s 38))])
 (.cond (.s 39) (.seq (.region [vM 40 0,
 vM 41 1,
 vM 42 2,
 vM 43 4,
 vN 44 224 [(.s 40), (.s 41), (.s 42), (.s 43)]])
 (.region [vM 45 3,
 vP 46 (vc .sub 45 1),
 vM 3 46]))
 (.skip)))
 (.seq (.region [vM 48 0,
 vM 49 1,
 vM 50 2,
 vM 51 4,
 vN 52 225 [(.s 48), (.s 49), (.s 50), (.s 51)],
 vM 47 52,
 vP 53 (.ex (.s 47) 0),
 vP 54 (.ex (.s 47) 1),
 vM 13 53,
 vM 14 54])
 (.seq (.seq (.region [vM 55 14,
 vP 56 (vc .eql 55 2)])
 (.cond (.s 56) (.seq (.region [vM 57 0,
 vM 58 1,
 vM 59 2,
 vM 60 4,
 vN 61 226 [(.s 57), (.s 58), (.s 59), (.s 60)]])
 (.seq (.region [vM 62 2,
 vP 63 (vc .sub 62 1),
 vM 64 13,
 vM 65 1,
 vP 66 (vb .sub 64 65),
 vP 67 (vb .sub 63 66),
 vM 13 67])
 (.region [vP 14 (.mv (vi 1))])))
 (.skip)))
 (.seq (.seq (.region [vM 68 10,
 vM 69 68,
 vT 69 70 (.mv (.s 11)),
 vP 71 (.pick (.s 69) (.s 70) (.c (.bool false))),
 vM 72 71,
 vT 72 73 (.mv (.s 14)),
 vT 72 74 (vc .eql 73 1),
 vP 75 (.pick (.s 72) (.s 74) (.c (.bool false)))])
 (.cond (.s 75) (.seq (.region [vM 76 0,
 vM 77 1,
 vM 78 2,
 vM 79 4,
 vN 80 227 [(.s 76), (.s 77), (.s 78), (.s 79)]])
 (.cond (.s 80) (.ret)
 (.skip)))
 (.skip)))
 (.seq (.seq (.draw [vD (vM 81 1) 0,
 vD (vP 82 (vc .gtr 81 0)) 1,
 vD (vM 83 82) 3,
 vD (vT 83 84 (.mv (.s 4))) 7,
 vD (vT 83 85 (.mv (.s 0))) 7,
 vD (vT 83 86 (.mv (.s 1))) 7,
 vD (vT 83 87 (vc .sub 86 1)) 39,
 vD (vT 83 88 (.ias 2 (.s 85) (.s 87))) 119,
 vD (vT 83 89 (.ld true 2 (.s 88))) 247,
 vD (vT 83 90 (.mv (.s 0))) 7,
 vD (vT 83 91 (.mv (.s 13))) 7,
 vD (vT 83 92 (.ias 2 (.s 90) (.s 91))) 1543,
 vD (vT 83 93 (.ld true 2 (.s 92))) 3591,
 ⟨⟨some (83, true), some 94, .inr (.val true (.s 84) [(.s 89), (.s 93)])⟩, some [], [], 8191, false⟩,
 vD (vT 83 95 (vc .lss 94 0)) 16383,
 vD (vT 83 96 (.not (.s 95))) 32767,
 vD (vP 97 (.pick (.s 83) (.s 96) (.c (.bool false)))) 65535])
 (.cond (.s 97) (.seq (.region [vM 98 0,
 vM 99 1,
 vM 100 2,
 vM 101 13,
 vM 102 4,
 vN 103 228 [(.s 98), (.s 99), (.s 100), (.s 101), (.s 102)],
 vM 15 103])
 (.seq (.region [vM 104 15,
 vM 1 104])
 (.exit 1)))
 (.skip)))
 (.seq (.region [vM 106 0,
 vM 107 1,
 vM 108 2,
 vM 109 13,
 vM 110 4,
 vN 111 229 [(.s 106), (.s 107), (.s 108), (.s 109), (.s 110)],
 vM 105 111,
 vP 112 (.ex (.s 105) 0),
 vP 113 (.ex (.s 105) 1),
 vM 16 112,
 vM 17 113])
 (.seq (.region [vM 114 17,
 vM 11 114])
 (.seq (.region [vM 115 16,
 vM 116 1,
 vP 117 (vb .sub 115 116),
 vM 118 2,
 vM 119 16,
 vP 120 (vb .sub 118 119),
 vM 18 117,
 vM 19 120])
 (.seq (.region [vM 121 12,
 vP 122 (vc .quo 121 8),
 vM 20 122])
 (.seq (.region [vM 123 18,
 vM 124 19,
 vP 125 (vb .lss 123 124)])
 (.cond (.s 125) (.seq (.region [vM 126 18,
 vM 127 20,
 vP 128 (vb .geq 126 127),
 vM 10 128])
 (.seq (.region [vM 129 0,
 vM 130 1,
 vM 131 16,
 vM 132 3,
 vM 133 4,
 vN 134 218 [(.s 129), (.s 130), (.s 131), (.s 132), (.s 133)]])
 (.region [vM 135 16,
 vP 136 (vc .add 135 1),
 vM 1 136])))
 (.seq (.region [vM 137 19,
 vM 138 20,
 vP 139 (vb .geq 137 138),
 vM 10 139])
 (.seq (.region [vM 140 0,
 vM 141 16,
 vP 142 (vc .add 141 1),
 vM 143 2,
 vM 144 3,
 vM 145 4,
 vN 146 218 [(.s 140), (.s 142), (.s 143), (.s 144), (.s 145)]])
 (.region [vM 147 16,
 vM 2 147])))))))))))))))))
def k218 : Cd :=
  .seq (.region [vP 10 (.mv (.c (.bool true)))])
 (.seq (.region [vP 11 (.mv (.c (.bool true)))])
 (.block 0 (.loop k218l0)))
def k219l0 : Cd :=
  .block 1 (.seq (.region [vM 21 2,
 vM 22 1,
 vP 23 (vb .sub 21 22),
 vM 12 23])
 (.seq (.seq (.region [vM 24 12,
 vP 25 (vc .leq 24 12)])
 (.cond (.s 25) (.seq (.region [vM 26 0,
 vM 27 1,
 vM 28 2,
 vM 29 4,
 vN 30 230 [(.s 26), (.s 27), (.s 28), (.s 29)]])
 (.ret))
 (.skip)))
 (.seq (.seq (.region [vM 31 3,
 vP 32 (vc .eql 31 0)])
 (.cond (.s 32) (.seq (.region [vM 33 0,
 vM 34 1,
 vM 35 2,
 vM 36 4,
 vN 37 231 [(.s 33), (.s 34), (.s 35), (.s 36)]])
 (.ret))
 (.skip)))
 (.seq (.seq (.region [vM 38 10,
 vP 39 (.not (.s 38))])
 (.cond (.s 39) (.seq (.region [vM 40 0,
 vM 41 1,
 vM 42 2,
 vM 43 4,
 vN 44 232 [(.s 40), (.s 41), (.s 42), (.s 43)]])
 (.region [vM 45 3,
 vP 46 (vc .sub 45 1),
 vM 3 46]))
 (.skip)))
 (.seq (.region [vM 48 0,
 vM 49 1,
 vM 50 2,
 vM 51 4,
 vN 52 233 [(.s 48), (.s 49), (.s 50), (.s 51)],
 vM 47 52,
 vP 53 (.ex (.s 47) 0),
 vP 54 (.ex (.s 47) 1),
 vM 13 53,
 vM 14 54])
 (.seq (.seq (.region [vM 55 14,
 vP 56 (vc .eql 55 2)])
 (.cond (.s 56) (.seq (.region [vM 57 0,
 vM 58 1,
 vM 59 2,
 vM 60 4,
 vN 61 234 [(.s 57), (.s 58), (.s 59), (.s 60)]])
 (.seq (.region [vM 62 2,
 vP 63 (vc .sub 62 1),
 vM 64 13,
 vM 65 1,
 vP 66 (vb .sub 64 65),
 vP 67 (vb .sub 63 66),
 vM 13 67])
 (.region [vP 14 (.mv (vi 1))])))
 (.skip)))
 (.seq (.seq (.region [vM 68 10,
 vM 69 68,
 vT 69 70 (.mv (.s 11)),
 vP 71 (.pick (.s 69) (.s 70) (.c (.bool false))),
 vM 72 71,
 vT 72 73 (.mv (.s 14)),
 vT 72 74 (vc .eql 73 1),
 vP 75 (.pick (.s 72) (.s 74) (.c (.bool false)))])
 (.cond (.s 75) (.seq (.region [vM 76 0,
 vM 77 1,
 vM 78 2,
 vM 79 4,
 vN 80 235 [(.s 76), (.s 77), (.s 78), (.s 79)]])
 (.cond (.s 80) (.ret)
 (.skip)))
 (.skip)))
 (.seq (.seq (.draw [vD (vM 81 1) 0,
 vD (vP 82 (vc .gtr 81 0)) 1,
 vD (vM 83 82) 3,
 vD (vT 83 84 (.mv (.s 4))) 7,
 vD (vT 83 85 (.mv (.s 0))) 7,
 vD (vT 83 86 (.mv (.s 1))) 7,
 vD (vT 83 87 (vc .sub 86 1)) 39,
 vD (vT 83 88 (.ias 3 (.s 85) (.s 87))) 119,
 vD (vT 83 89 (.ld true 3 (.s 88))) 247,
 vD (vT 83 90 (.mv (.s 0))) 7,
 vD (vT 83 91 (.mv (.s 13))) 7,
 vD (vT 83 92 (.ias 3 (.s 90) (.s 91))) 1543,
 vD (vT 83 93 (.ld true 3 (.s 92))) 3591,
 ⟨⟨some (83, true), some 94, .inr (.val true (.s 84) [(.s 89), (.s 93)])⟩, some [], [], 8191, false⟩,
 vD (vT 83 95 (vc .lss 94 0)) 16383,
 vD (vT 83 96 (.not (.s 95))) 32767,
 vD (vP 97 (.pick (.s 83) (.s 96) (.c (.bool false)))) 65535])
 (.cond (.s 97) (.seq (.region [vM 98 0,
 vM 99 1,
 vM 100 2,
 vM 101 13,
 vM 102 4,
 vN 103 236 [(.s 98), (.s 99), (.s 100), (.s 101), (.s 102)],
 vM 15 103])
 (.seq (.region [vM 104 15,
 vM 1 104])
 (.exit 1)))
 (.skip)))
 (.seq (.region [vM 106 0,
 vM 107 1,
 vM 108 2,
 vM 109 13,
 vM 110 4,
 vN 111 237 [(.s 106), (.s 107), (.s 108), (.s 109), (.s 110)],
 vM 105 111,
 vP 112 (.ex (.s 105) 0),
 vP 113 (.ex (.s 105) 1),
 vM 16 112,
 vM 17 113])
 (.seq (.region [vM 114 17,
 vM 11 114])
 (.seq (.region [vM 115 16,
 vM 116 1,
 vP 117 (vb .sub 115 116),
 vM 118 2,
 vM 119 16,
 vP 120 (vb .sub 118 119),
 vM 18 117,
 vM 19 120])
 (.seq (.region [vM 121 12,
 vP 122 (vc .quo 121 8),
 vM 20 122])
 (.seq (.region [vM 123 18,
 vM 124 19,
 vP 125 (vb .lss 123 124)])
 (.cond (.s 125) (.seq (.region [vM 126 18,
 vM 127 20,
 vP 128 (vb .geq 126 127),
 vM 10 128])
 (.seq (.region [vM 129 0,
 vM 130 1,
 vM 131 16,
 vM 132 3,
 vM 133 4,
 vN 134 219 [(.s 129), (.s 130), (.s 131), (.s 132), (.s 133)]])
 (.region [vM 135 16,
 vP 136 (vc .add 135 1),
 vM 1 136])))
 (.seq (.region [vM 137 19,
 vM 138 20,
 vP 139 (vb .geq 137 138),
 vM 10 139])
 (.seq (.region [vM 140 0,
 vM 141 16,
 vP 142 (vc .add 141 1),
 vM 143 2,
 vM 144 3,
 vM 145 4,
 vN 146 219 [(.s 140), (.s 142), (.s 143), (.s 144), (.s 145)]])
 (.region [vM 147 16,
 vM 2 147])))))))))))))))))
def k219 : Cd :=
  .seq (.region [vP 10 (.mv (.c (.bool true)))])
 (.seq (.region [vP 11 (.mv (.c (.bool true)))])
 (.block 0 (.loop k219l0)))
def k220l0 : Cd :=
  .seq (.region [vP 8 (vb .lss 7 6)])
 (.seq (.cond (.s 8) (.skip)
 (.exit 0))
 (.seq (.block 1 (.seq (.region [vI 9 3 5 7,
 vP 10 (.ld true 3 (.s 9)),
 vP 4 (.alloc 245 [(.int .i64 0), (.int .i64 0), (.int .i64 0)]),
 ⟨none, none, .inl (.st 3 (.s 4) (.s 10))⟩])
 (.seq (.region [vM 11 0,
 vP 12 (.ld true 3 (.s 4)),
 ⟨none, some 13, .inr (.val false (.s 11) [(.s 12)])⟩,
 vP 14 (.not (.s 13))])
 (.cond (.s 14) (.ret)
 (.skip)))))
 (.region [vP 15 (vc .add 7 1),
 vM 7 15])))
def k220 : Cd :=
  .seq (.region [vL 5 1 1,
 vP 6 (.len (.s 5)),
 vP 7 (.mv (vi 0))])
 (.block 0 (.loop k220l0))
def k222l0 : Cd :=
  .seq (.seq (.draw [vD (vM 18 9) 0,
 vD (vM 19 1) 0,
 vD (vP 20 (vb .gtr 18 19)) 3,
 vD (vM 21 20) 7,
 vD (vT 21 22 (.mv (.s 3))) 15,
 vD (vT 21 23 (.mv (.s 0))) 15,
 vD (vT 21 24 (.mv (.s 9))) 15,
 vD (vT 21 25 (.ias 2 (.s 23) (.s 24))) 111,
 vD (vT 21 26 (.ld true 2 (.s 25))) 239,
 vD (vT 21 27 (.mv (.s 0))) 15,
 vD (vT 21 28 (.mv (.s 9))) 15,
 vD (vT 21 29 (vc .sub 28 1)) 1039,
 vD (vT 21 30 (.ias 2 (.s 27) (.s 29))) 3599,
 vD (vT 21 31 (.ld true 2 (.s 30))) 7695,
 ⟨⟨some (21, true), some 32, .inr (.val true (.s 22) [(.s 26), (.s 31)])⟩, some [], [], 16383, false⟩,
 vD (vT 21 33 (vc .lss 32 0)) 32767,
 vD (vP 34 (.pick (.s 21) (.s 33) (.c (.bool false)))) 65535])
 (.cond (.s 34) (.skip)
 (.exit 2)))
 (.seq (.block 3 (.draw [vD (vM 37 0) 0,
 vD (vM 38 9) 0,
 vD (vM 39 0) 0,
 vD (vM 40 9) 0,
 vD (vP 41 (vc .sub 40 1)) 8,
 vD (vM 42 0) 0,
 vD (vM 43 9) 0,
 vD (vP 44 (vc .sub 43 1)) 64,
 vD (vI 45 2 42 44) 224,
 vD (vP 46 (.ld true 2 (.s 45))) 480,
 vD (vM 47 0) 0,
 vD (vM 48 9) 0,
 vD (vI 49 2 47 48) 3072,
 vD (vP 50 (.ld true 2 (.s 49))) 7168,
 vD (vI 51 2 37 38) 16355,
 ⟨⟨none, none, .inl (.st 2 (.s 51) (.s 46))⟩, (some [.at 0]), [], 32739, false⟩,
 vD (vI 52 2 39 41) 65535,
 ⟨⟨none, none, .inl (.st 2 (.s 52) (.s 50))⟩, (some [.at 0]), [], 131071, false⟩]))
 (.region [vM 35 9,
 vP 36 (vc .sub 35 1),
 vM 9 36]))
def k222l1 : Cd :=
  .seq (.seq (.region [vM 12 8,
 vM 13 2,
 vP 14 (vb .lss 12 13)])
 (.cond (.s 14) (.skip)
 (.exit 0)))
 (.seq (.block 1 (.seq (.region [vM 17 8,
 vM 9 17])
 (.block 2 (.loop k222l0))))
 (.region [vM 15 8,
 vP 16 (vc .add 15 1),
 vM 8 16]))
def k222 : Cd :=
  .seq (.region [vM 10 1,
 vP 11 (vc .add 10 1),
 vM 8 11])
 (.block 0 (.loop k222l1))
def k223l0 : Cd :=
  .seq (.seq (.region [vM 20 11,
 vP 21 (vc .geq 20 0)])
 (.cond (.s 21) (.skip)
 (.exit 0)))
 (.seq (.block 1 (.region [vM 24 0,
 vM 25 11,
 vM 26 10,
 vM 27 8,
 vM 28 3,
 vN 29 238 [(.s 24), (.s 25), (.s 26), (.s 27), (.s 28)]]))
 (.region [vM 22 11,
 vP 23 (vc .sub 22 1),
 vM 11 23]))
def k223l1 : Cd :=
  .seq (.seq (.region [vM 32 12,
 vP 33 (vc .geq 32 0)])
 (.cond (.s 33) (.skip)
 (.exit 2)))
 (.seq (.block 3 (.seq (.draw [vD (vM 36 0) 0,
 vD (vM 37 8) 0,
 vD (vM 38 0) 0,
 vD (vM 39 8) 0,
 vD (vM 40 12) 0,
 vD (vP 41 (vb .add 39 40)) 24,
 vD (vM 42 0) 0,
 vD (vM 43 8) 0,
 vD (vM 44 12) 0,
 vD (vP 45 (vb .add 43 44)) 384,
 vD (vI 46 2 42 45) 960,
 vD (vP 47 (.ld true 2 (.s 46))) 1984,
 vD (vM 48 0) 0,
 vD (vM 49 8) 0,
 vD (vI 50 2 48 49) 12288,
 vD (vP 51 (.ld true 2 (.s 50))) 28672,
 vD (vI 52 2 36 37) 65475,
 ⟨⟨none, none, .inl (.st 2 (.s 52) (.s 47))⟩, (some [.at 0]), [], 131011, false⟩,
 vD (vI 53 2 38 41) 262143,
 ⟨⟨none, none, .inl (.st 2 (.s 53) (.s 51))⟩, (some [.at 0]), [], 524287, false⟩])
 (.region [vM 54 0,
 vM 55 9,
 vM 56 12,
 vM 57 8,
 vM 58 3,
 vN 59 238 [(.s 54), (.s 55), (.s 56), (.s 57), (.s 58)]])))
 (.region [vM 34 12,
 vP 35 (vc .sub 34 1),
 vM 12 35]))
def k223 : Cd :=
  .seq (.region [vM 13 1,
 vM 8 13])
 (.seq (.region [vP 9 (.mv (vi 0))])
 (.seq (.region [vM 14 2,
 vM 15 1,
 vP 16 (vb .sub 14 15),
 vM 10 16])
 (.seq (.seq (.region [vM 17 10,
 vP 18 (vc .sub 17 1),
 vP 19 (vc .quo 18 2),
 vM 11 19])
 (.block 0 (.loop k223l0)))
 (.seq (.region [vM 30 10,
 vP 31 (vc .sub 30 1),
 vM 12 31])
 (.block 2 (.loop k223l1))))))
def k224l0 : Cd :=
  .seq (.seq (.region [vM 28 11,
 vM 29 1,
 vM 30 8,
 vP 31 (vc .quo 30 4),
 vP 32 (vc .mul 31 2),
 vP 33 (vb .add 29 32),
 vP 34 (vc .add 33 1),
 vP 35 (vb .leq 28 34)])
 (.cond (.s 35) (.skip)
 (.exit 0)))
 (.seq (.block 1 (.seq (.region [vN 38 215 [(.s 9)],
 vM 39 10,
 vP 40 (.bin .sub (.s 39) (.c (.int .u64 1))),
 vP 41 (vb .and 38 40),
 vP 42 (.cvi .i64 (.s 41)),
 vM 12 42])
 (.seq (.seq (.region [vM 43 12,
 vM 44 8,
 vP 45 (vb .geq 43 44)])
 (.cond (.s 45) (.region [vM 46 12,
 vM 47 8,
 vP 48 (vb .sub 46 47),
 vM 12 48])
 (.skip)))
 (.draw [vD (vM 49 0) 0,
 vD (vM 50 11) 0,
 vD (vM 51 0) 0,
 vD (vM 52 1) 0,
 vD (vM 53 12) 0,
 vD (vP 54 (vb .add 52 53)) 24,
 vD (vM 55 0) 0,
 vD (vM 56 1) 0,
 vD (vM 57 12) 0,
 vD (vP 58 (vb .add 56 57)) 384,
 vD (vI 59 2 55 58) 960,
 vD (vP 60 (.ld true 2 (.s 59))) 1984,
 vD (vM 61 0) 0,
 vD (vM 62 11) 0,
 vD (vI 63 2 61 62) 12288,
 vD (vP 64 (.ld true 2 (.s 63))) 28672,
 vD (vI 65 2 49 50) 65475,
 ⟨⟨none, none, .inl (.st 2 (.s 65) (.s 60))⟩, (some [.at 0]), [], 131011, false⟩,
 vD (vI 66 2 51 54) 262143,
 ⟨⟨none, none, .inl (.st 2 (.s 66) (.s 64))⟩, (some [.at 0]), [], 524287, false⟩]))))
 (.region [vM 36 11,
 vP 37 (vc .add 36 1),
 vM 11 37]))
def k224 : Cd :=
  .seq (.region [vM 13 2,
 vM 14 1,
 vP 15 (vb .sub 13 14),
 vM 8 15])
 (.seq (.region [vM 16 8,
 vP 17 (vc .geq 16 8)])
 (.cond (.s 17) (.seq (.region [vM 18 8,
 vP 19 (.cvi .u64 (.s 18)),
 vP 9 (.alloc 270 [(.int .u64 0)]),
 ⟨none, none, .inl (.st 1 (.s 9) (.s 19))⟩])
 (.seq (.region [vM 20 8,
 vN 21 214 [(.s 20)],
 vM 10 21])
 (.seq (.region [vM 22 1,
 vM 23 8,
 vP 24 (vc .quo 23 4),
 vP 25 (vc .mul 24 2),
 vP 26 (vb .add 22 25),
 vP 27 (vc .sub 26 1),
 vM 11 27])
 (.block 0 (.loop k224l0)))))
 (.skip)))
def k225 : Cd :=
  .seq (.region [vP 8 (.mv (vi 0)),
 vP 9 (.mv (vi 0))])
 (.seq (.region [vM 15 2,
 vM 16 1,
 vP 17 (vb .sub 15 16),
 vM 10 17])
 (.seq (.region [vP 11 (.alloc 3 [(.int .i64 0)])])
 (.seq (.region [vM 18 1,
 vM 19 10,
 vP 20 (vc .quo 19 4),
 vP 21 (vc .mul 20 1),
 vP 22 (vb .add 18 21),
 vM 12 22])
 (.seq (.region [vM 23 1,
 vM 24 10,
 vP 25 (vc .quo 24 4),
 vP 26 (vc .mul 25 2),
 vP 27 (vb .add 23 26),
 vM 13 27])
 (.seq (.region [vM 28 1,
 vM 29 10,
 vP 30 (vc .quo 29 4),
 vP 31 (vc .mul 30 3),
 vP 32 (vb .add 28 31),
 vM 14 32])
 (.seq (.seq (.region [vM 33 10,
 vP 34 (vc .geq 33 8)])
 (.cond (.s 34) (.seq (.seq (.region [vM 35 10,
 vP 36 (vc .geq 35 50)])
 (.cond (.s 36) (.seq (.region [vM 37 0,
 vM 38 12,
 vM 39 3,
 vN 40 239 [(.s 37), (.s 38), (.s 11), (.s 39)],
 vM 12 40])
 (.seq (.region [vM 41 0,
 vM 42 13,
 vM 43 3,
 vN 44 239 [(.s 41), (.s 42), (.s 11), (.s 43)],
 vM 13 44])
 (.region [vM 45 0,
 vM 46 14,
 vM 47 3,
 vN 48 239 [(.s 45), (.s 46), (.s 11), (.s 47)],
 vM 14 48])))
 (.skip)))
 (.region [vM 49 0,
 vM 50 12,
 vM 51 13,
 vM 52 14,
 vM 53 3,
 vN 54 240 [(.s 49), (.s 50), (.s 51), (.s 52), (.s 11), (.s 53)],
 vM 13 54]))
 (.skip)))
 (.seq (.region [vL 55 1 11])
 (.block 0 (.seq (.region [vP 58 (vc .eql 55 0),
 vM 57 58])
 (.cond (.s 57) (.seq (.region [vM 59 13,
 vM 8 59,
 vP 9 (.mv (vi 1))])
 (.ret))
 (.seq (.region [vP 61 (vc .eql 55 12),
 vM 60 61])
 (.cond (.s 60) (.seq (.region [vM 62 13,
 vM 8 62,
 vP 9 (.mv (vi 2))])
 (.ret))
 (.seq (.region [vM 56 13,
 vM 8 56,
 vP 9 (.mv (vi 0))])
 (.ret))))))))))))))
def k226l0 : Cd :=
  .seq (.seq (.region [vM 13 8,
 vM 14 9,
 vP 15 (vb .lss 13 14)])
 (.cond (.s 15) (.skip)
 (.exit 0)))
 (.block 1 (.seq (.draw [vD (vM 16 0) 0,
 vD (vM 17 8) 0,
 vD (vM 18 0) 0,
 vD (vM 19 9) 0,
 vD (vM 20 0) 0,
 vD (vM 21 9) 0,
 vD (vI 22 2 20 21) 48,
 vD (vP 23 (.ld true 2 (.s 22))) 112,
 vD (vM 24 0) 0,
 vD (vM 25 8) 0,
 vD (vI 26 2 24 25) 768,
 vD (vP 27 (.ld true 2 (.s 26))) 1792,
 vD (vI 28 2 16 17) 4083,
 ⟨⟨none, none, .inl (.st 2 (.s 28) (.s 23))⟩, (some [.at 0]), [], 8179, false⟩,
 vD (vI 29 2 18 19) 16383,
 ⟨⟨none, none, .inl (.st 2 (.s 29) (.s 27))⟩, (some [.at 0]), [], 32767, false⟩])
 (.seq (.region [vM 30 8,
 vP 31 (vc .add 30 1),
 vM 8 31])
 (.region [vM 32 9,
 vP 33 (vc .sub 32 1),
 vM 9 33]))))
def k226 : Cd :=
  .seq (.region [vM 10 1,
 vM 8 10])
 (.seq (.region [vM 11 2,
 vP 12 (vc .sub 11 1),
 vM 9 12])
 (.block 0 (.loop k226l0)))
def k227l0 : Cd :=
  .seq (.seq (.draw [vD (vM 19 9) 0,
 vD (vM 20 2) 0,
 vD (vP 21 (vb .lss 19 20)) 3,
 vD (vM 22 21) 7,
 vD (vT 22 23 (.mv (.s 3))) 15,
 vD (vT 22 24 (.mv (.s 0))) 15,
 vD (vT 22 25 (.mv (.s 9))) 15,
 vD (vT 22 26 (.ias 2 (.s 24) (.s 25))) 111,
 vD (vT 22 27 (.ld true 2 (.s 26))) 239,
 vD (vT 22 28 (.mv (.s 0))) 15,
 vD (vT 22 29 (.mv (.s 9))) 15,
 vD (vT 22 30 (vc .sub 29 1)) 1039,
 vD (vT 22 31 (.ias 2 (.s 28) (.s 30))) 3599,
 vD (vT 22 32 (.ld true 2 (.s 31))) 7695,
 ⟨⟨some (22, true), some 33, .inr (.val true (.s 23) [(.s 27), (.s 32)])⟩, some [], [], 16383, false⟩,
 vD (vT 22 34 (vc .lss 33 0)) 32767,
 vD (vT 22 35 (.not (.s 34))) 65535,
 vD (vP 36 (.pick (.s 22) (.s 35) (.c (.bool false)))) 131071])
 (.cond (.s 36) (.skip)
 (.exit 2)))
 (.block 3 (.region [vM 37 9,
 vP 38 (vc .add 37 1),
 vM 9 38]))
def k227l1 : Cd :=
  .seq (.seq (.region [vM 68 11,
 vP 69 (vc .geq 68 1)])
 (.cond (.s 69) (.skip)
 (.exit 4)))
 (.seq (.block 5 (.seq (.seq (.draw [vD (vM 72 3) 0,
 vD (vM 73 0) 0,
 vD (vM 74 11) 0,
 vD (vI 75 2 73 74) 6,
 vD (vP 76 (.ld true 2 (.s 75))) 14,
 vD (vM 77 0) 0,
 vD (vM 78 11) 0,
 vD (vP 79 (vc .sub 78 1)) 64,
 vD (vI 80 2 77 79) 224,
 vD (vP 81 (.ld true 2 (.s 80))) 480,
 ⟨⟨none, some 82, .inr (.val false (.s 72) [(.s 76), (.s 81)])⟩, some [], [], 1023, false⟩,
 vD (vP 83 (vc .lss 82 0)) 2047,
 vD (vP 84 (.not (.s 83))) 4095])
 (.cond (.s 84) (.exit 4)
 (.skip)))
 (.draw [vD (vM 85 0) 0,
 vD (vM 86 11) 0,
 vD (vM 87 0) 0,
 vD (vM 88 11) 0,
 vD (vP 89 (vc .sub 88 1)) 8,
 vD (vM 90 0) 0,
 vD (vM 91 11) 0,
 vD (vP 92 (vc .sub 91 1)) 64,
 vD (vI 93 2 90 92) 224,
 vD (vP 94 (.ld true 2 (.s 93))) 480,
 vD (vM 95 0) 0,
 vD (vM 96 11) 0,
 vD (vI 97 2 95 96) 3072,
 vD (vP 98 (.ld true 2 (.s 97))) 7168,
 vD (vI 99 2 85 86) 16355,
 ⟨⟨none, none, .inl (.st 2 (.s 99) (.s 94))⟩, (some [.at 0]), [], 32739, false⟩,
 vD (vI 100 2 87 89) 65535,
 ⟨⟨none, none, .inl (.st 2 (.s 100) (.s 98))⟩, (some [.at 0]), [], 131071, false⟩])))
 (.region [vM 70 11,
 vP 71 (vc .sub 70 1),
 vM 11 71]))
def k227l2 : Cd :=
  .seq (.seq (.region [vM 107 12,
 vM 108 2,
 vP 109 (vb .lss 107 108)])
 (.cond (.s 109) (.skip)
 (.exit 6)))
 (.seq (.block 7 (.seq (.seq (.draw [vD (vM 112 3) 0,
 vD (vM 113 0) 0,
 vD (vM 114 12) 0,
 vD (vI 115 2 113 114) 6,
 vD (vP 116 (.ld true 2 (.s 115))) 14,
 vD (vM 117 0) 0,
 vD (vM 118 12) 0,
 vD (vP 119 (vc .sub 118 1)) 64,
 vD (vI 120 2 117 119) 224,
 vD (vP 121 (.ld true 2 (.s 120))) 480,
 ⟨⟨none, some 122, .inr (.val false (.s 112) [(.s 116), (.s 121)])⟩, some [], [], 1023, false⟩,
 vD (vP 123 (vc .lss 122 0)) 2047,
 vD (vP 124 (.not (.s 123))) 4095])
 (.cond (.s 124) (.exit 6)
 (.skip)))
 (.draw [vD (vM 125 0) 0,
 vD (vM 126 12) 0,
 vD (vM 127 0) 0,
 vD (vM 128 12) 0,
 vD (vP 129 (vc .sub 128 1)) 8,
 vD (vM 130 0) 0,
 vD (vM 131 12) 0,
 vD (vP 132 (vc .sub 131 1)) 64,
 vD (vI 133 2 130 132) 224,
 vD (vP 134 (.ld true 2 (.s 133))) 480,
 vD (vM 135 0) 0,
 vD (vM 136 12) 0,
 vD (vI 137 2 135 136) 3072,
 vD (vP 138 (.ld true 2 (.s 137))) 7168,
 vD (vI 139 2 125 126) 16355,
 ⟨⟨none, none, .inl (.st 2 (.s 139) (.s 134))⟩, (some [.at 0]), [], 32739, false⟩,
 vD (vI 140 2 127 129) 65535,
 ⟨⟨none, none, .inl (.st 2 (.s 140) (.s 138))⟩, (some [.at 0]), [], 131071, false⟩])))
 (.region [vM 110 12,
 vP 111 (vc .add 110 1),
 vM 12 111]))
def k227l3 : Cd :=
  .seq (.seq (.region [vM 15 10,
 vP 16 (vc .lss 15 5)])
 (.cond (.s 16) (.skip)
 (.exit 0)))
 (.seq (.block 1 (.seq (.block 2 (.loop k227l0))
 (.seq (.seq (.region [vM 39 9,
 vM 40 2,
 vP 41 (vb .eql 39 40)])
 (.cond (.s 41) (.seq (.region [vP 8 (.mv (.c (.bool true)))])
 (.ret))
 (.skip)))
 (.seq (.seq (.region [vM 42 2,
 vM 43 1,
 vP 44 (vb .sub 42 43),
 vP 45 (vc .lss 44 50)])
 (.cond (.s 45) (.seq (.region [vP 8 (.mv (.c (.bool false)))])
 (.ret))
 (.skip)))
 (.seq (.draw [vD (vM 46 0) 0,
 vD (vM 47 9) 0,
 vD (vM 48 0) 0,
 vD (vM 49 9) 0,
 vD (vP 50 (vc .sub 49 1)) 8,
 vD (vM 51 0) 0,
 vD (vM 52 9) 0,
 vD (vP 53 (vc .sub 52 1)) 64,
 vD (vI 54 2 51 53) 224,
 vD (vP 55 (.ld true 2 (.s 54))) 480,
 vD (vM 56 0) 0,
 vD (vM 57 9) 0,
 vD (vI 58 2 56 57) 3072,
 vD (vP 59 (.ld true 2 (.s 58))) 7168,
 vD (vI 60 2 46 47) 16355,
 ⟨⟨none, none, .inl (.st 2 (.s 60) (.s 55))⟩, (some [.at 0]), [], 32739, false⟩,
 vD (vI 61 2 48 50) 65535,
 ⟨⟨none, none, .inl (.st 2 (.s 61) (.s 59))⟩, (some [.at 0]), [], 131071, false⟩])
 (.seq (.seq (.region [vM 62 9,
 vM 63 1,
 vP 64 (vb .sub 62 63),
 vP 65 (vc .geq 64 2)])
 (.cond (.s 65) (.seq (.region [vM 66 9,
 vP 67 (vc .sub 66 1),
 vM 11 67])
 (.block 4 (.loop k227l1)))
 (.skip)))
 (.seq (.region [vM 101 2,
 vM 102 9,
 vP 103 (vb .sub 101 102),
 vP 104 (vc .geq 103 2)])
 (.cond (.s 104) (.seq (.region [vM 105 9,
 vP 106 (vc .add 105 1),
 vM 12 106])
 (.block 6 (.loop k227l2)))
 (.skip)))))))))
 (.region [vM 17 10,
 vP 18 (vc .add 17 1),
 vM 10 18]))
def k227 : Cd :=
  .seq (.region [vP 8 (.mv (.c (.bool false)))])
 (.seq (.region [vM 13 1,
 vP 14 (vc .add 13 1),
 vM 9 14])
 (.seq (.seq (.region [vP 10 (.mv (vi 0))])
 (.block 0 (.loop k227l3)))
 (.seq (.region [vP 8 (.mv (.c (.bool false)))])
 (.ret))))
def k228l0 : Cd :=
  .seq (.seq (.draw [vD (vM 31 11) 0,
 vD (vM 32 12) 0,
 vD (vP 33 (vb .leq 31 32)) 3,
 vD (vM 34 33) 7,
 vD (vT 34 35 (.mv (.s 4))) 15,
 vD (vT 34 36 (.mv (.s 0))) 15,
 vD (vT 34 37 (.mv (.s 1))) 15,
 vD (vT 34 38 (.ias 2 (.s 36) (.s 37))) 111,
 vD (vT 34 39 (.ld true 2 (.s 38))) 239,
 vD (vT 34 40 (.mv (.s 0))) 15,
 vD (vT 34 41 (.mv (.s 11))) 15,
 vD (vT 34 42 (.ias 2 (.s 40) (.s 41))) 1551,
 vD (vT 34 43 (.ld true 2 (.s 42))) 3599,
 ⟨⟨some (34, true), some 44, .inr (.val true (.s 35) [(.s 39), (.s 43)])⟩, some [], [], 8191, false⟩,
 vD (vT 34 45 (vc .lss 44 0)) 16383,
 vD (vT 34 46 (.not (.s 45))) 32767,
 vD (vP 47 (.pick (.s 34) (.s 46) (.c (.bool false)))) 65535])
 (.cond (.s 47) (.skip)
 (.exit 2)))
 (.block 3 (.region [vM 48 11,
 vP 49 (vc .add 48 1),
 vM 11 49]))
def k228l1 : Cd :=
  .seq (.seq (.draw [vD (vM 50 11) 0,
 vD (vM 51 12) 0,
 vD (vP 52 (vb .leq 50 51)) 3,
 vD (vM 53 52) 7,
 vD (vT 53 54 (.mv (.s 4))) 15,
 vD (vT 53 55 (.mv (.s 0))) 15,
 vD (vT 53 56 (.mv (.s 1))) 15,
 vD (vT 53 57 (.ias 2 (.s 55) (.s 56))) 111,
 vD (vT 53 58 (.ld true 2 (.s 57))) 239,
 vD (vT 53 59 (.mv (.s 0))) 15,
 vD (vT 53 60 (.mv (.s 12))) 15,
 vD (vT 53 61 (.ias 2 (.s 59) (.s 60))) 1551,
 vD (vT 53 62 (.ld true 2 (.s 61))) 3599,
 ⟨⟨some (53, true), some 63, .inr (.val true (.s 54) [(.s 58), (.s 62)])⟩, some [], [], 8191, false⟩,
 vD (vT 53 64 (vc .lss 63 0)) 16383,
 vD (vP 65 (.pick (.s 53) (.s 64) (.c (.bool false)))) 32767])
 (.cond (.s 65) (.skip)
 (.exit 4)))
 (.block 5 (.region [vM 66 12,
 vP 67 (vc .sub 66 1),
 vM 12 67]))
def k228l2 : Cd :=
  .block 1 (.seq (.block 2 (.loop k228l0))
 (.seq (.block 4 (.loop k228l1))
 (.seq (.seq (.region [vM 68 11,
 vM 69 12,
 vP 70 (vb .gtr 68 69)])
 (.cond (.s 70) (.exit 0)
 (.skip)))
 (.seq (.draw [vD (vM 71 0) 0,
 vD (vM 72 11) 0,
 vD (vM 73 0) 0,
 vD (vM 74 12) 0,
 vD (vM 75 0) 0,
 vD (vM 76 12) 0,
 vD (vI 77 2 75 76) 48,
 vD (vP 78 (.ld true 2 (.s 77))) 112,
 vD (vM 79 0) 0,
 vD (vM 80 11) 0,
 vD (vI 81 2 79 80) 768,
 vD (vP 82 (.ld true 2 (.s 81))) 1792,
 vD (vI 83 2 71 72) 4083,
 ⟨⟨none, none, .inl (.st 2 (.s 83) (.s 78))⟩, (some [.at 0]), [], 8179, false⟩,
 vD (vI 84 2 73 74) 16383,
 ⟨⟨none, none, .inl (.st 2 (.s 84) (.s 82))⟩, (some [.at 0]), [], 32767, false⟩])
 (.seq (.region [vM 85 11,
 vP 86 (vc .add 85 1),
 vM 11 86])
 (.region [vM 87 12,
 vP 88 (vc .sub 87 1),
 vM 12 88]))))))
def k228 : Cd :=
  .seq (.region [vP 10 (.mv (vi 0))])
 (.seq (.draw [vD (vM 13 0) 0,
 vD (vM 14 1) 0,
 vD (vM 15 0) 0,
 vD (vM 16 3) 0,
 vD (vM 17 0) 0,
 vD (vM 18 3) 0,
 vD (vI 19 2 17 18) 48,
 vD (vP 20 (.ld true 2 (.s 19))) 112,
 vD (vM 21 0) 0,
 vD (vM 22 1) 0,
 vD (vI 23 2 21 22) 768,
 vD (vP 24 (.ld true 2 (.s 23))) 1792,
 vD (vI 25 2 13 14) 4083,
 ⟨⟨none, none, .inl (.st 2 (.s 25) (.s 20))⟩, (some [.at 0]), [], 8179, false⟩,
 vD (vI 26 2 15 16) 16383,
 ⟨⟨none, none, .inl (.st 2 (.s 26) (.s 24))⟩, (some [.at 0]), [], 32767, false⟩])
 (.seq (.region [vM 27 1,
 vP 28 (vc .add 27 1),
 vM 29 2,
 vP 30 (vc .sub 29 1),
 vM 11 28,
 vM 12 30])
 (.seq (.block 0 (.loop k228l2))
 (.seq (.region [vM 89 11,
 vM 10 89])
 (.ret)))))
def k229l0 : Cd :=
  .seq (.seq (.draw [vD (vM 32 12) 0,
 vD (vM 33 13) 0,
 vD (vP 34 (vb .leq 32 33)) 3,
 vD (vM 35 34) 7,
 vD (vT 35 36 (.mv (.s 4))) 15,
 vD (vT 35 37 (.mv (.s 0))) 15,
 vD (vT 35 38 (.mv (.s 12))) 15,
 vD (vT 35 39 (.ias 2 (.s 37) (.s 38))) 111,
 vD (vT 35 40 (.ld true 2 (.s 39))) 239,
 vD (vT 35 41 (.mv (.s 0))) 15,
 vD (vT 35 42 (.mv (.s 1))) 15,
 vD (vT 35 43 (.ias 2 (.s 41) (.s 42))) 1551,
 vD (vT 35 44 (.ld true 2 (.s 43))) 3599,
 ⟨⟨some (35, true), some 45, .inr (.val true (.s 36) [(.s 40), (.s 44)])⟩, some [], [], 8191, false⟩,
 vD (vT 35 46 (vc .lss 45 0)) 16383,
 vD (vP 47 (.pick (.s 35) (.s 46) (.c (.bool false)))) 32767])
 (.cond (.s 47) (.skip)
 (.exit 0)))
 (.block 1 (.region [vM 48 12,
 vP 49 (vc .add 48 1),
 vM 12 49]))
def k229l1 : Cd :=
  .seq (.seq (.draw [vD (vM 50 12) 0,
 vD (vM 51 13) 0,
 vD (vP 52 (vb .leq 50 51)) 3,
 vD (vM 53 52) 7,
 vD (vT 53 54 (.mv (.s 4))) 15,
 vD (vT 53 55 (.mv (.s 0))) 15,
 vD (vT 53 56 (.mv (.s 13))) 15,
 vD (vT 53 57 (.ias 2 (.s 55) (.s 56))) 111,
 vD (vT 53 58 (.ld true 2 (.s 57))) 239,
 vD (vT 53 59 (.mv (.s 0))) 15,
 vD (vT 53 60 (.mv (.s 1))) 15,
 vD (vT 53 61 (.ias 2 (.s 59) (.s 60))) 1551,
 vD (vT 53 62 (.ld true 2 (.s 61))) 3599,
 ⟨⟨some (53, true), some 63, .inr (.val true (.s 54) [(.s 58), (.s 62)])⟩, some [], [], 8191, false⟩,
 vD (vT 53 64 (vc .lss 63 0)) 16383,
 vD (vT 53 65 (.not (.s 64))) 32767,
 vD (vP 66 (.pick (.s 53) (.s 65) (.c (.bool false)))) 65535])
 (.cond (.s 66) (.skip)
 (.exit 2)))
 (.block 3 (.region [vM 67 13,
 vP 68 (vc .sub 67 1),
 vM 13 68]))
def k229l2 : Cd :=
  .seq (.seq (.draw [vD (vM 105 12) 0,
 vD (vM 106 13) 0,
 vD (vP 107 (vb .leq 105 106)) 3,
 vD (vM 108 107) 7,
 vD (vT 108 109 (.mv (.s 4))) 15,
 vD (vT 108 110 (.mv (.s 0))) 15,
 vD (vT 108 111 (.mv (.s 12))) 15,
 vD (vT 108 112 (.ias 2 (.s 110) (.s 111))) 111,
 vD (vT 108 113 (.ld true 2 (.s 112))) 239,
 vD (vT 108 114 (.mv (.s 0))) 15,
 vD (vT 108 115 (.mv (.s 1))) 15,
 vD (vT 108 116 (.ias 2 (.s 114) (.s 115))) 1551,
 vD (vT 108 117 (.ld true 2 (.s 116))) 3599,
 ⟨⟨some (108, true), some 118, .inr (.val true (.s 109) [(.s 113), (.s 117)])⟩, some [], [], 8191, false⟩,
 vD (vT 108 119 (vc .lss 118 0)) 16383,
 vD (vP 120 (.pick (.s 108) (.s 119) (.c (.bool false)))) 32767])
 (.cond (.s 120) (.skip)
 (.exit 6)))
 (.block 7 (.region [vM 121 12,
 vP 122 (vc .add 121 1),
 vM 12 122]))
def k229l3 : Cd :=
  .seq (.seq (.draw [vD (vM 123 12) 0,
 vD (vM 124 13) 0,
 vD (vP 125 (vb .leq 123 124)) 3,
 vD (vM 126 125) 7,
 vD (vT 126 127 (.mv (.s 4))) 15,
 vD (vT 126 128 (.mv (.s 0))) 15,
 vD (vT 126 129 (.mv (.s 13))) 15,
 vD (vT 126 130 (.ias 2 (.s 128) (.s 129))) 111,
 vD (vT 126 131 (.ld true 2 (.s 130))) 239,
 vD (vT 126 132 (.mv (.s 0))) 15,
 vD (vT 126 133 (.mv (.s 1))) 15,
 vD (vT 126 134 (.ias 2 (.s 132) (.s 133))) 1551,
 vD (vT 126 135 (.ld true 2 (.s 134))) 3599,
 ⟨⟨some (126, true), some 136, .inr (.val true (.s 127) [(.s 131), (.s 135)])⟩, some [], [], 8191, false⟩,
 vD (vT 126 137 (vc .lss 136 0)) 16383,
 vD (vT 126 138 (.not (.s 137))) 32767,
 vD (vP 139 (.pick (.s 126) (.s 138) (.c (.bool false)))) 65535])
 (.cond (.s 139) (.skip)
 (.exit 8)))
 (.block 9 (.region [vM 140 13,
 vP 141 (vc .sub 140 1),
 vM 13 141]))
def k229l4 : Cd :=
  .block 5 (.seq (.block 6 (.loop k229l2))
 (.seq (.block 8 (.loop k229l3))
 (.seq (.seq (.region [vM 142 12,
 vM 143 13,
 vP 144 (vb .gtr 142 143)])
 (.cond (.s 144) (.exit 4)
 (.skip)))
 (.seq (.draw [vD (vM 145 0) 0,
 vD (vM 146 12) 0,
 vD (vM 147 0) 0,
 vD (vM 148 13) 0,
 vD (vM 149 0) 0,
 vD (vM 150 13) 0,
 vD (vI 151 2 149 150) 48,
 vD (vP 152 (.ld true 2 (.s 151))) 112,
 vD (vM 153 0) 0,
 vD (vM 154 12) 0,
 vD (vI 155 2 153 154) 768,
 vD (vP 156 (.ld true 2 (.s 155))) 1792,
 vD (vI 157 2 145 146) 4083,
 ⟨⟨none, none, .inl (.st 2 (.s 157) (.s 152))⟩, (some [.at 0]), [], 8179, false⟩,
 vD (vI 158 2 147 148) 16383,
 ⟨⟨none, none, .inl (.st 2 (.s 158) (.s 156))⟩, (some [.at 0]), [], 32767, false⟩])
 (.seq (.region [vM 159 12,
 vP 160 (vc .add 159 1),
 vM 12 160])
 (.region [vM 161 13,
 vP 162 (vc .sub 161 1),
 vM 13 162]))))))
def k229 : Cd :=
  .seq (.region [vP 10 (.mv (vi 0)),
 vP 11 (.mv (.c (.bool false)))])
 (.seq (.draw [vD (vM 14 0) 0,
 vD (vM 15 1) 0,
 vD (vM 16 0) 0,
 vD (vM 17 3) 0,
 vD (vM 18 0) 0,
 vD (vM 19 3) 0,
 vD (vI 20 2 18 19) 48,
 vD (vP 21 (.ld true 2 (.s 20))) 112,
 vD (vM 22 0) 0,
 vD (vM 23 1) 0,
 vD (vI 24 2 22 23) 768,
 vD (vP 25 (.ld true 2 (.s 24))) 1792,
 vD (vI 26 2 14 15) 4083,
 ⟨⟨none, none, .inl (.st 2 (.s 26) (.s 21))⟩, (some [.at 0]), [], 8179, false⟩,
 vD (vI 27 2 16 17) 16383,
 ⟨⟨none, none, .inl (.st 2 (.s 27) (.s 25))⟩, (some [.at 0]), [], 32767, false⟩])
 (.seq (.region [vM 28 1,
 vP 29 (vc .add 28 1),
 vM 30 2,
 vP 31 (vc .sub 30 1),
 vM 12 29,
 vM 13 31])
 (.seq (.block 0 (.loop k229l0))
 (.seq (.block 2 (.loop k229l1))
 (.seq (.seq (.region [vM 69 12,
 vM 70 13,
 vP 71 (vb .gtr 69 70)])
 (.cond (.s 71) (.seq (.draw [vD (vM 72 0) 0,
 vD (vM 73 13) 0,
 vD (vM 74 0) 0,
 vD (vM 75 1) 0,
 vD (vM 76 0) 0,
 vD (vM 77 1) 0,
 vD (vI 78 2 76 77) 48,
 vD (vP 79 (.ld true 2 (.s 78))) 112,
 vD (vM 80 0) 0,
 vD (vM 81 13) 0,
 vD (vI 82 2 80 81) 768,
 vD (vP 83 (.ld true 2 (.s 82))) 1792,
 vD (vI 84 2 72 73) 4083,
 ⟨⟨none, none, .inl (.st 2 (.s 84) (.s 79))⟩, (some [.at 0]), [], 8179, false⟩,
 vD (vI 85 2 74 75) 16383,
 ⟨⟨none, none, .inl (.st 2 (.s 85) (.s 83))⟩, (some [.at 0]), [], 32767, false⟩])
 (.seq (.region [vM 86 13,
 vM 10 86,
 vP 11 (.mv (.c (.bool true)))])
 (.ret)))
 (.skip)))
 (.seq (.draw [vD (vM 87 0) 0,
 vD (vM 88 12) 0,
 vD (vM 89 0) 0,
 vD (vM 90 13) 0,
 vD (vM 91 0) 0,
 vD (vM 92 13) 0,
 vD (vI 93 2 91 92) 48,
 vD (vP 94 (.ld true 2 (.s 93))) 112,
 vD (vM 95 0) 0,
 vD (vM 96 12) 0,
 vD (vI 97 2 95 96) 768,
 vD (vP 98 (.ld true 2 (.s 97))) 1792,
 vD (vI 99 2 87 88) 4083,
 ⟨⟨none, none, .inl (.st 2 (.s 99) (.s 94))⟩, (some [.at 0]), [], 8179, false⟩,
 vD (vI 100 2 89 90) 16383,
 ⟨⟨none, none, .inl (.st 2 (.s 100) (.s 98))⟩, (some [.at 0]), [], 32767, false⟩])
 (.seq (.region [vM 101 12,
 vP 102 (vc .add 101 1),
 vM 12 102])
 (.seq (.region [vM 103 13,
 vP 104 (vc .sub 103 1),
 vM 13 104])
 (.seq (.block 4 (.loop k229l4))
 (.seq (.draw [vD (vM 163 0) 0,
 vD (vM 164 13) 0,
 vD (vM 165 0) 0,
 vD (vM 166 1) 0,
 vD (vM 167 0) 0,
 vD (vM 168 1) 0,
 vD (vI 169 2 167 168) 48,
 vD (vP 170 (.ld true 2 (.s 169))) 112,
 vD (vM 171 0) 0,
 vD (vM 172 13) 0,
 vD (vI 173 2 171 172) 768,
 vD (vP 174 (.ld true 2 (.s 173))) 1792,
 vD (vI 175 2 163 164) 4083,
 ⟨⟨none, none, .inl (.st 2 (.s 175) (.s 170))⟩, (some [.at 0]), [], 8179, false⟩,
 vD (vI 176 2 165 166) 16383,
 ⟨⟨none, none, .inl (.st 2 (.s 176) (.s 174))⟩, (some [.at 0]), [], 32767, false⟩])
 (.seq (.region [vM 177 13,
 vM 10 177,
 vP 11 (.mv (.c (.bool false)))])
 (.ret))))))))))))
def k230l0 : Cd :=
  .seq (.seq (.draw [vD (vM 18 9) 0,
 vD (vM 19 1) 0,
 vD (vP 20 (vb .gtr 18 19)) 3,
 vD (vM 21 20) 7,
 vD (vT 21 22 (.mv (.s 3))) 15,
 vD (vT 21 23 (.mv (.s 0))) 15,
 vD (vT 21 24 (.mv (.s 9))) 15,
 vD (vT 21 25 (.ias 3 (.s 23) (.s 24))) 111,
 vD (vT 21 26 (.ld true 3 (.s 25))) 239,
 vD (vT 21 27 (.mv (.s 0))) 15,
 vD (vT 21 28 (.mv (.s 9))) 15,
 vD (vT 21 29 (vc .sub 28 1)) 1039,
 vD (vT 21 30 (.ias 3 (.s 27) (.s 29))) 3599,
 vD (vT 21 31 (.ld true 3 (.s 30))) 7695,
 ⟨⟨some (21, true), some 32, .inr (.val true (.s 22) [(.s 26), (.s 31)])⟩, some [], [], 16383, false⟩,
 vD (vT 21 33 (vc .lss 32 0)) 32767,
 vD (vP 34 (.pick (.s 21) (.s 33) (.c (.bool false)))) 65535])
 (.cond (.s 34) (.skip)
 (.exit 2)))
 (.seq (.block 3 (.draw [vD (vM 37 0) 0,
 vD (vM 38 9) 0,
 vD (vM 39 0) 0,
 vD (vM 40 9) 0,
 vD (vP 41 (vc .sub 40 1)) 8,
 vD (vM 42 0) 0,
 vD (vM 43 9) 0,
 vD (vP 44 (vc .sub 43 1)) 64,
 vD (vI 45 3 42 44) 224,
 vD (vP 46 (.ld true 3 (.s 45))) 480,
 vD (vM 47 0) 0,
 vD (vM 48 9) 0,
 vD (vI 49 3 47 48) 3072,
 vD (vP 50 (.ld true 3 (.s 49))) 7168,
 vD (vI 51 3 37 38) 16355,
 ⟨⟨none, none, .inl (.st 3 (.s 51) (.s 46))⟩, (some [.at 0]), [], 32739, false⟩,
 vD (vI 52 3 39 41) 65535,
 ⟨⟨none, none, .inl (.st 3 (.s 52) (.s 50))⟩, (some [.at 0]), [], 131071, false⟩]))
 (.region [vM 35 9,
 vP 36 (vc .sub 35 1),
 vM 9 36]))
def k230l1 : Cd :=
  .seq (.seq (.region [vM 12 8,
 vM 13 2,
 vP 14 (vb .lss 12 13)])
 (.cond (.s 14) (.skip)
 (.exit 0)))
 (.seq (.block 1 (.seq (.region [vM 17 8,
 vM 9 17])
 (.block 2 (.loop k230l0))))
 (.region [vM 15 8,
 vP 16 (vc .add 15 1),
 vM 8 16]))
def k230 : Cd :=
  .seq (.region [vM 10 1,
 vP 11 (vc .add 10 1),
 vM 8 11])
 (.block 0 (.loop k230l1))
def k231l0 : Cd :=
  .seq (.seq (.region [vM 20 11,
 vP 21 (vc .geq 20 0)])
 (.cond (.s 21) (.skip)
 (.exit 0)))
 (.seq (.block 1 (.region [vM 24 0,
 vM 25 11,
 vM 26 10,
 vM 27 8,
 vM 28 3,
 vN 29 241 [(.s 24), (.s 25), (.s 26), (.s 27), (.s 28)]]))
 (.region [vM 22 11,
 vP 23 (vc .sub 22 1),
 vM 11 23]))
def k231l1 : Cd :=
  .seq (.seq (.region [vM 32 12,
 vP 33 (vc .geq 32 0)])
 (.cond (.s 33) (.skip)
 (.exit 2)))
 (.seq (.block 3 (.seq (.draw [vD (vM 36 0) 0,
 vD (vM 37 8) 0,
 vD (vM 38 0) 0,
 vD (vM 39 8) 0,
 vD (vM 40 12) 0,
 vD (vP 41 (vb .add 39 40)) 24,
 vD (vM 42 0) 0,
 vD (vM 43 8) 0,
 vD (vM 44 12) 0,
 vD (vP 45 (vb .add 43 44)) 384,
 vD (vI 46 3 42 45) 960,
 vD (vP 47 (.ld true 3 (.s 46))) 1984,
 vD (vM 48 0) 0,
 vD (vM 49 8) 0,
 vD (vI 50 3 48 49) 12288,
 vD (vP 51 (.ld true 3 (.s 50))) 28672,
 vD (vI 52 3 36 37) 65475,
 ⟨⟨none, none, .inl (.st 3 (.s 52) (.s 47))⟩, (some [.at 0]), [], 131011, false⟩,
 vD (vI 53 3 38 41) 262143,
 ⟨⟨none, none, .inl (.st 3 (.s 53) (.s 51))⟩, (some [.at 0]), [], 524287, false⟩])
 (.region [vM 54 0,
 vM 55 9,
 vM 56 12,
 vM 57 8,
 vM 58 3,
 vN 59 241 [(.s 54), (.s 55), (.s 56), (.s 57), (.s 58)]])))
 (.region [vM 34 12,
 vP 35 (vc .sub 34 1),
 vM 12 35]))
def k231 : Cd :=
  .seq (.region [vM 13 1,
 vM 8 13])
 (.seq (.region [vP 9 (.mv (vi 0))])
 (.seq (.region [vM 14 2,
 vM 15 1,
 vP 16 (vb .sub 14 15),
 vM 10 16])
 (.seq (.seq (.region [vM 17 10,
 vP 18 (vc .sub 17 1),
 vP 19 (vc .quo 18 2),
 vM 11 19])
 (.block 0 (.loop k231l0)))
 (.seq (.region [vM 30 10,
 vP 31 (vc .sub 30 1),
 vM 12 31])
 (.block 2 (.loop k231l1))))))
def k232l0 : Cd :=
  .seq (.seq (.region [vM 28 11,
 vM 29 1,
 vM 30 8,
 vP 31 (vc .quo 30 4),
 vP 32 (vc .mul 31 2),
 vP 33 (vb .add 29 32),
 vP 34 (vc .add 33 1),
 vP 35 (vb .leq 28 34)])
 (.cond (.s 35) (.skip)
 (.exit 0)))
 (.seq (.block 1 (.seq (.region [vN 38 215 [(.s 9)],
 vM 39 10,
 vP 40 (.bin .sub (.s 39) (.c (.int .u64 1))),
 vP 41 (vb .and 38 40),
 vP 42 (.cvi .i64 (.s 41)),
 vM 12 42])
 (.seq (.seq (.region [vM 43 12,
 vM 44 8,
 vP 45 (vb .geq 43 44)])
 (.cond (.s 45) (.region [vM 46 12,
 vM 47 8,
 vP 48 (vb .sub 46 47),
 vM 12 48])
 (.skip)))
 (.draw [vD (vM 49 0) 0,
 vD (vM 50 11) 0,
 vD (vM 51 0) 0,
 vD (vM 52 1) 0,
 vD (vM 53 12) 0,
 vD (vP 54 (vb .add 52 53)) 24,
 vD (vM 55 0) 0,
 vD (vM 56 1) 0,
 vD (vM 57 12) 0,
 vD (vP 58 (vb .add 56 57)) 384,
 vD (vI 59 3 55 58) 960,
 vD (vP 60 (.ld true 3 (.s 59))) 1984,
 vD (vM 61 0) 0,
 vD (vM 62 11) 0,
 vD (vI 63 3 61 62) 12288,
 vD (vP 64 (.ld true 3 (.s 63))) 28672,
 vD (vI 65 3 49 50) 65475,
 ⟨⟨none, none, .inl (.st 3 (.s 65) (.s 60))⟩, (some [.at 0]), [], 131011, false⟩,
 vD (vI 66 3 51 54) 262143,
 ⟨⟨none, none, .inl (.st 3 (.s 66) (.s 64))⟩, (some [.at 0]), [], 524287, false⟩]))))
 (.region [vM 36 11,
 vP 37 (vc .add 36 1),
 vM 11 37]))
def k232 : Cd :=
  .seq (.region [vM 13 2,
 vM 14 1,
 vP 15 (vb .sub 13 14),
 vM 8 15])
 (.seq (.region [vM 16 8,
 vP 17 (vc .geq 16 8)])
 (.cond (.s 17) (.seq (.region [vM 18 8,
 vP 19 (.cvi .u64 (.s 18)),
 vP 9 (.alloc 270 [(.int .u64 0)]),
 ⟨none, none, .inl (.st 1 (.s 9) (.s 19))⟩])
 (.seq (.region [vM 20 8,
 vN 21 214 [(.s 20)],
 vM 10 21])
 (.seq (.region [vM 22 1,
 vM 23 8,
 vP 24 (vc .quo 23 4),
 vP 25 (vc .mul 24 2),
 vP 26 (vb .add 22 25),
 vP 27 (vc .sub 26 1),
 vM 11 27])
 (.block 0 (.loop k232l0)))))
 (.skip)))
def k233 : Cd :=
  .seq (.region [vP 8 (.mv (vi 0)),
 vP 9 (.mv (vi 0))])
 (.seq (.region [vM 15 2,
 vM 16 1,
 vP 17 (vb .sub 15 16),
 vM 10 17])
 (.seq (.region [vP 11 (.alloc 3 [(.int .i64 0)])])
 (.seq (.region [vM 18 1,
 vM 19 10,
 vP 20 (vc .quo 19 4),
 vP 21 (vc .mul 20 1),
 vP 22 (vb .add 18 21),
 vM 12 22])
 (.seq (.region [vM 23 1,
 vM 24 10,
 vP 25 (vc .quo 24 4),
 vP 26 (vc .mul 25 2),
 vP 27 (vb .add 23 26),
 vM 13 27])
 (.seq (.region [vM 28 1,
 vM 29 10,
 vP 30 (vc .quo 29 4),
 vP 31 (vc .mul 30 3),
 vP 32 (vb .add 28 31),
 vM 14 32])
 (.seq (.seq (.region [vM 33 10,
 vP 34 (vc .geq 33 8)])
 (.cond (.s 34) (.seq (.seq (.region [vM 35 10,
 vP 36 (vc .geq 35 50)])
 (.cond (.s 36) (.seq (.region [vM 37 0,
 vM 38 12,
 vM 39 3,
 vN 40 242 [(.s 37), (.s 38), (.s 11), (.s 39)],
 vM 12 40])
 (.seq (.region [vM 41 0,
 vM 42 13,
 vM 43 3,
 vN 44 242 [(.s 41), (.s 42), (.s 11), (.s 43)],
 vM 13 44])
 (.region [vM 45 0,
 vM 46 14,
 vM 47 3,
 vN 48 242 [(.s 45), (.s 46), (.s 11), (.s 47)],
 vM 14 48])))
 (.skip)))
 (.region [vM 49 0,
 vM 50 12,
 vM 51 13,
 vM 52 14,
 vM 53 3,
 vN 54 243 [(.s 49), (.s 50), (.s 51), (.s 52), (.s 11), (.s 53)],
 vM 13 54]))
 (.skip)))
 (.seq (.region [vL 55 1 11])
 (.block 0 (.seq (.region [vP 58 (vc .eql 55 0),
 vM 57 58])
 (.cond (.s 57) (.seq (.region [vM 59 13,
 vM 8 59,
 vP 9 (.mv (vi 1))])
 (.ret))
 (.seq (.region [vP 61 (vc .eql 55 12),
 vM 60 61])
 (.cond (.s 60) (.seq (.region [vM 62 13,
 vM 8 62,
 vP 9 (.mv (vi 2))])
 (.ret))
 (.seq (.region [vM 56 13,
 vM 8 56,
 vP 9 (.mv (vi 0))])
 (.ret))))))))))))))
def k234l0 : Cd :=
  .seq (.seq (.region [vM 13 8,
 vM 14 9,
 vP 15 (vb .lss 13 14)])
 (.cond (.s 15) (.skip)
 (.exit 0)))
 (.block 1 (.seq (.draw [vD (vM 16 0) 0,
 vD (vM 17 8) 0,
 vD (vM 18 0) 0,
 vD (vM 19 9) 0,
 vD (vM 20 0) 0,
 vD (vM 21 9) 0,
 vD (vI 22 3 20 21) 48,
 vD (vP 23 (.ld true 3 (.s 22))) 112,
 vD (vM 24 0) 0,
 vD (vM 25 8) 0,
 vD (vI 26 3 24 25) 768,
 vD (vP 27 (.ld true 3 (.s 26))) 1792,
 vD (vI 28 3 16 17) 4083,
 ⟨⟨none, none, .inl (.st 3 (.s 28) (.s 23))⟩, (some [.at 0]), [], 8179, false⟩,
 vD (vI 29 3 18 19) 16383,
 ⟨⟨none, none, .inl (.st 3 (.s 29) (.s 27))⟩, (some [.at 0]), [], 32767, false⟩])
 (.seq (.region [vM 30 8,
 vP 31 (vc .add 30 1),
 vM 8 31])
 (.region [vM 32 9,
 vP 33 (vc .sub 32 1),
 vM 9 33]))))
def k234 : Cd :=
  .seq (.region [vM 10 1,
 vM 8 10])
 (.seq (.region [vM 11 2,
 vP 12 (vc .sub 11 1),
 vM 9 12])
 (.block 0 (.loop k234l0)))
def k235l0 : Cd :=
  .seq (.seq (.draw [vD (vM 19 9) 0,
 vD (vM 20 2) 0,
 vD (vP 21 (vb .lss 19 20)) 3,
 vD (vM 22 21) 7,
 vD (vT 22 23 (.mv (.s 3))) 15,
 vD (vT 22 24 (.mv (.s 0))) 15,
 vD (vT 22 25 (.mv (.s 9))) 15,
 vD (vT 22 26 (.ias 3 (.s 24) (.s 25))) 111,
 vD (vT 22 27 (.ld true 3 (.s 26))) 239,
 vD (vT 22 28 (.mv (.s 0))) 15,
 vD (vT 22 29 (.mv (.s 9))) 15,
 vD (vT 22 30 (vc .sub 29 1)) 1039,
 vD (vT 22 31 (.ias 3 (.s 28) (.s 30))) 3599,
 vD (vT 22 32 (.ld true 3 (.s 31))) 7695,
 ⟨⟨some (22, true), some 33, .inr (.val true (.s 23) [(.s 27), (.s 32)])⟩, some [], [], 16383, false⟩,
 vD (vT 22 34 (vc .lss 33 0)) 32767,
 vD (vT 22 35 (.not (.s 34))) 65535,
 vD (vP 36 (.pick (.s 22) (.s 35) (.c (.bool false)))) 131071])
 (.cond (.s 36) (.skip)
 (.exit 2)))
 (.block 3 (.region [vM 37 9,
 vP 38 (vc .add 37 1),
 vM 9 38]))
def k235l1 : Cd :=
  .seq (.seq (.region [vM 68 11,
 vP 69 (vc .geq 68 1)])
 (.cond (.s 69) (.skip)
 (.exit 4)))
 (.seq (.block 5 (.seq (.seq (.draw [vD (vM 72 3) 0,
 vD (vM 73 0) 0,
 vD (vM 74 11) 0,
 vD (vI 75 3 73 74) 6,
 vD (vP 76 (.ld true 3 (.s 75))) 14,
 vD (vM 77 0) 0,
 vD (vM 78 11) 0,
 vD (vP 79 (vc .sub 78 1)) 64,
 vD (vI 80 3 77 79) 224,
 vD (vP 81 (.ld true 3 (.s 80))) 480,
 ⟨⟨none, some 82, .inr (.val false (.s 72) [(.s 76), (.s 81)])⟩, some [], [], 1023, false⟩,
 vD (vP 83 (vc .lss 82 0)) 2047,
 vD (vP 84 (.not (.s 83))) 4095])
 (.cond (.s 84) (.exit 4)
 (.skip)))
 (.draw [vD (vM 85 0) 0,
 vD (vM 86 11) 0,
 vD (vM 87 0) 0,
 vD (vM 88 11) 0,
 vD (vP 89 (vc .sub 88 1)) 8,
 vD (vM 90 0) 0,
 vD (vM 91 11) 0,
 vD (vP 92 (vc .sub 91 1)) 64,
 vD (vI 93 3 90 92) 224,
 vD (vP 94 (.ld true 3 (.s 93))) 480,
 vD (vM 95 0) 0,
 vD (vM 96 11) 0,
 vD (vI 97 3 95 96) 3072,
 vD (vP 98 (.ld true 3 (.s 97))) 7168,
 vD (vI 99 3 85 86) 16355,
 ⟨⟨none, none, .inl (.st 3 (.s 99) (.s 94))⟩, (some [.at 0]), [], 32739, false⟩,
 vD (vI 100 3 87 89) 65535,
 ⟨⟨none, none, .inl (.st 3 (.s 100) (.s 98))⟩, (some [.at 0]), [], 131071, false⟩])))
 (.region [vM 70 11,
 vP 71 (vc .sub 70 1),
 vM 11 71]))
def k235l2 : Cd :=
  .seq (.seq (.region [vM 107 12,
 vM 108 2,
 vP 109 (vb .lss 107 108)])
 (.cond (.s 109) (.skip)
 (.exit 6)))
 (.seq (.block 7 (.seq (.seq (.draw [vD (vM 112 3) 0,
 vD (vM 113 0) 0,
 vD (vM 114 12) 0,
 vD (vI 115 3 113 114) 6,
 vD (vP 116 (.ld true 3 (.s 115))) 14,
 vD (vM 117 0) 0,
 vD (vM 118 12) 0,
 vD (vP 119 (vc .sub 118 1)) 64,
 vD (vI 120 3 117 119) 224,
 vD (vP 121 (.ld true 3 (.s 120))) 480,
 ⟨⟨none, some 122, .inr (.val false (.s 112) [(.s 116), (.s 121)])⟩, some [], [], 1023, false⟩,
 vD (vP 123 (vc .lss 122 0)) 2047,
 vD (vP 124 (.not (.s 123))) 4095])
 (.cond (.s 124) (.exit 6)
 (.skip)))
 (.draw [vD (vM 125 0) 0,
 vD (vM 126 12) 0,
 vD (vM 127 0) 0,
 vD (vM 128 12) 0,
 vD (vP 129 (vc .sub 128 1)) 8,
 vD (vM 130 0) 0,
 vD (vM 131 12) 0,
 vD (vP 132 (vc .sub 131 1)) 64,
 vD (vI 133 3 130 132) 224,
 vD (vP 134 (.ld true 3 (.s 133))) 480,
 vD (vM 135 0) 0,
 vD (vM 136 12) 0,
 vD (vI 137 3 135 136) 3072,
 vD (vP 138 (.ld true 3 (.s 137))) 7168,
 vD (vI 139 3 125 126) 16355,
 ⟨⟨none, none, .inl (.st 3 (.s 139) (.s 134))⟩, (some [.at 0]), [], 32739, false⟩,
 vD (vI 140 3 127 129) 65535,
 ⟨⟨none, none, .inl (.st 3 (.s 140) (.s 138))⟩, (some [.at 0]), [], 131071, false⟩])))
 (.region [vM 110 12,
 vP 111 (vc .add 110 1),
 vM 12 111]))
def k235l3 : Cd :=
  .seq (.seq (.region [vM 15 10,
 vP 16 (vc .lss 15 5)])
 (.cond (.s 16) (.skip)
 (.exit 0)))
 (.seq (.block 1 (.seq (.block 2 (.loop k235l0))
 (.seq (.seq (.region [vM 39 9,
 vM 40 2,
 vP 41 (vb .eql 39 40)])
 (.cond (.s 41) (.seq (.region [vP 8 (.mv (.c (.bool true)))])
 (.ret))
 (.skip)))
 (.seq (.seq (.region [vM 42 2,
 vM 43 1,
 vP 44 (vb .sub 42 43),
 vP 45 (vc .lss 44 50)])
 (.cond (.s 45) (.seq (.region [vP 8 (.mv (.c (.bool false)))])
 (.ret))
 (.skip)))
 (.seq (.draw [vD (vM 46 0) 0,
 vD (vM 47 9) 0,
 vD (vM 48 0) 0,
 vD (vM 49 9) 0,
 vD (vP 50 (vc .sub 49 1)) 8,
 vD (vM 51 0) 0,
 vD (vM 52 9) 0,
 vD (vP 53 (vc .sub 52 1)) 64,
 vD (vI 54 3 51 53) 224,
 vD (vP 55 (.ld true 3 (.s 54))) 480,
 vD (vM 56 0) 0,
 vD (vM 57 9) 0,
 vD (vI 58 3 56 57) 3072,
 vD (vP 59 (.ld true 3 (.s 58))) 7168,
 vD (vI 60 3 46 47) 16355,
 ⟨⟨none, none, .inl (.st 3 (.s 60) (.s 55))⟩, (some [.at 0]), [], 32739, false⟩,
 vD (vI 61 3 48 50) 65535,
 ⟨⟨none, none, .inl (.st 3 (.s 61) (.s 59))⟩, (some [.at 0]), [], 131071, false⟩])
 (.seq (.seq (.region [vM 62 9,
 vM 63 1,
 vP 64 (vb .sub 62 63),
 vP 65 (vc .geq 64 2)])
 (.cond (.s 65) (.seq (.region [vM 66 9,
 vP 67 (vc .sub 66 1),
 vM 11 67])
 (.block 4 (.loop k235l1)))
 (.skip)))
 (.seq (.region [vM 101 2,
 vM 102 9,
 vP 103 (vb .sub 101 102),
 vP 104 (vc .geq 103 2)])
 (.cond (.s 104) (.seq (.region [vM 105 9,
 vP 106 (vc .add 105 1),
 vM 12 106])
 (.block 6 (.loop k235l2)))
 (.skip)))))))))
 (.region [vM 17 10,
 vP 18 (vc .add 17 1),
 vM 10 18]))
def k235 : Cd :=
  .seq (.region [vP 8 (.mv (.c (.bool false)))])
 (.seq (.region [vM 13 1,
 vP 14 (vc .add 13 1),
 vM 9 14])
 (.seq (.seq (.region [vP 10 (.mv (vi 0))])
 (.block 0 (.loop k235l3)))
 (.seq (.region [vP 8 (.mv (.c (.bool false)))])
 (.ret))))
def k236l0 : Cd :=
  .seq (.seq (.draw [vD (vM 31 11) 0,
 vD (vM 32 12) 0,
 vD (vP 33 (vb .leq 31 32)) 3,
 vD (vM 34 33) 7,
 vD (vT 34 35 (.mv (.s 4))) 15,
 vD (vT 34 36 (.mv (.s 0))) 15,
 vD (vT 34 37 (.mv (.s 1))) 15,
 vD (vT 34 38 (.ias 3 (.s 36) (.s 37))) 111,
 vD (vT 34 39 (.ld true 3 (.s 38))) 239,
 vD (vT 34 40 (.mv (.s 0))) 15,
 vD (vT 34 41 (.mv (.s 11))) 15,
 vD (vT 34 42 (.ias 3 (.s 40) (.s 41))) 1551,
 vD (vT 34 43 (.ld true 3 (.s 42))) 3599,
 ⟨⟨some (34, true), some 44, .inr (.val true (.s 35) [(.s 39), (.s 43)])⟩, some [], [], 8191, false⟩,
 vD (vT 34 45 (vc .lss 44 0)) 16383,
 vD (vT 34 46 (.not (.s 45))) 32767,
 vD (vP 47 (.pick (.s 34) (.s 46) (.c (.bool false)))) 65535])
 (.cond (.s 47) (.skip)
 (.exit 2)))
 (.block 3 (.region [vM 48 11,
 vP 49 (vc .add 48 1),
 vM 11 49]))
def k236l1 : Cd :=
  .seq (.seq (.draw [vD (vM 50 11) 0,
 vD (vM 51 12) 0,
 vD (vP 52 (vb .leq 50 51)) 3,
 vD (vM 53 52) 7,
 vD (vT 53 54 (.mv (.s 4))) 15,
 vD (vT 53 55 (.mv (.s 0))) 15,
 vD (vT 53 56 (.mv (.s 1))) 15,
 vD (vT 53 57 (.ias 3 (.s 55) (.s 56))) 111,
 vD (vT 53 58 (.ld true 3 (.s 57))) 239,
 vD (vT 53 59 (.mv (.s 0))) 15,
 vD (vT 53 60 (.mv (.s 12))) 15,
 vD (vT 53 61 (.ias 3 (.s 59) (.s 60))) 1551,
 vD (vT 53 62 (.ld true 3 (.s 61))) 3599,
 ⟨⟨some (53, true), some 63, .inr (.val true (.s 54) [(.s 58), (.s 62)])⟩, some [], [], 8191, false⟩,
 vD (vT 53 64 (vc .lss 63 0)) 16383,
 vD (vP 65 (.pick (.s 53) (.s 64) (.c (.bool false)))) 32767])
 (.cond (.s 65) (.skip)
 (.exit 4)))
 (.block 5 (.region [vM 66 12,
 vP 67 (vc .sub 66 1),
 vM 12 67]))
def k236l2 : Cd :=
  .block 1 (.seq (.block 2 (.loop k236l0))
 (.seq (.block 4 (.loop k236l1))
 (.seq (.seq (.region [vM 68 11,
 vM 69 12,
 vP 70 (vb .gtr 68 69)])
 (.cond (.s 70) (.exit 0)
 (.skip)))
 (.seq (.draw [vD (vM 71 0) 0,
 vD (vM 72 11) 0,
 vD (vM 73 0) 0,
 vD (vM 74 12) 0,
 vD (vM 75 0) 0,
 vD (vM 76 12) 0,
 vD (vI 77 3 75 76) 48,
 vD (vP 78 (.ld true 3 (.s 77))) 112,
 vD (vM 79 0) 0,
 vD (vM 80 11) 0,
 vD (vI 81 3 79 80) 768,
 vD (vP 82 (.ld true 3 (.s 81))) 1792,
 vD (vI 83 3 71 72) 4083,
 ⟨⟨none, none, .inl (.st 3 (.s 83) (.s 78))⟩, (some [.at 0]), [], 8179, false⟩,
 vD (vI 84 3 73 74) 16383,
 ⟨⟨none, none, .inl (.st 3 (.s 84) (.s 82))⟩, (some [.at 0]), [], 32767, false⟩])
 (.seq (.region [vM 85 11,
 vP 86 (vc .add 85 1),
 vM 11 86])
 (.region [vM 87 12,
 vP 88 (vc .sub 87 1),
 vM 12 88]))))))
def k236 : Cd :=
  .seq (.region [vP 10 (.mv (vi 0))])
 (.seq (.draw [vD (vM 13 0) 0,
 vD (vM 14 1) 0,
 vD (vM 15 0) 0,
 vD (vM 16 3) 0,
 vD (vM 17 0) 0,
 vD (vM 18 3) 0,
 vD (vI 19 3 17 18) 48,
 vD (vP 20 (.ld true 3 (.s 19))) 112,
 vD (vM 21 0) 0,
 vD (vM 22 1) 0,
 vD (vI 23 3 21 22) 768,
 vD (vP 24 (.ld true 3 (.s 23))) 1792,
 vD (vI 25 3 13 14) 4083,
 ⟨⟨none, none, .inl (.st 3 (.s 25) (.s 20))⟩, (some [.at 0]), [], 8179, false⟩,
 vD (vI 26 3 15 16) 16383,
 ⟨⟨none, none, .inl (.st 3 (.s 26) (.s 24))⟩, (some [.at 0]), [], 32767, false⟩])
 (.seq (.region [vM 27 1,
 vP 28 (vc .add 27 1),
 vM 29 2,
 vP 30 (vc .sub 29 1),
 vM 11 28,
 vM 12 30])
 (.seq (.block 0 (.loop k236l2))
 (.seq (.region [vM 89 11,
 vM 10 89])
 (.ret)))))
def k237l0 : Cd :=
  .seq (.seq (.draw [vD (vM 32 12) 0,
 vD (vM 33 13) 0,
 vD (vP 34 (vb .leq 32 33)) 3,
 vD (vM 35 34) 7,
 vD (vT 35 36 (.mv (.s 4))) 15,
 vD (vT 35 37 (.mv (.s 0))) 15,
 vD (vT 35 38 (.mv (.s 12))) 15,
 vD (vT 35 39 (.ias 3 (.s 37) (.s 38))) 111,
 vD (vT 35 40 (.ld true 3 (.s 39))) 239,
 vD (vT 35 41 (.mv (.s 0))) 15,
 vD (vT 35 42 (.mv (.s 1))) 15,
 vD (vT 35 43 (.ias 3 (.s 41) (.s 42))) 1551,
 vD (vT 35 44 (.ld true 3 (.s 43))) 3599,
 ⟨⟨some (35, true), some 45, .inr (.val true (.s 36) [(.s 40), (.s 44)])⟩, some [], [], 8191, false⟩,
 vD (vT 35 46 (vc .lss 45 0)) 16383,
 vD (vP 47 (.pick (.s 35) (.s 46) (.c (.bool false)))) 32767])
 (.cond (.s 47) (.skip)
 (.exit 0)))
 (.block 1 (.region [vM 48 12,
 vP 49 (vc .add 48 1),
 vM 12 49]))
def k237l1 : Cd :=
  .seq (.seq (.draw [vD (vM 50 12) 0,
 vD (vM 51 13) 0,
 vD (vP 52 (vb .leq 50 51)) 3,
 vD (vM 53 52) 7,
 vD (vT 53 54 (.mv (.s 4))) 15,
 vD (vT 53 55 (.mv (.s 0))) 15,
 vD (vT 53 56 (.mv (.s 13))) 15,
 vD (vT 53 57 (.ias 3 (.s 55) (.s 56))) 111,
 vD (vT 53 58 (.ld true 3 (.s 57))) 239,
 vD (vT 53 59 (.mv (.s 0))) 15,
 vD (vT 53 60 (.mv (.s 1))) 15,
 vD (vT 53 61 (.ias 3 (.s 59) (.s 60))) 1551,
 vD (vT 53 62 (.ld true 3 (.s 61))) 3599,
 ⟨⟨some (53, true), some 63, .inr (.val true (.s 54) [(.s 58), (.s 62)])⟩, some [], [], 8191, false⟩,
 vD (vT 53 64 (vc .lss 63 0)) 16383,
 vD (vT 53 65 (.not (.s 64))) 32767,
 vD (vP 66 (.pick (.s 53) (.s 65) (.c (.bool false)))) 65535])
 (.cond (.s 66) (.skip)
 (.exit 2)))
 (.block 3 (.region [vM 67 13,
 vP 68 (vc .sub 67 1),
 vM 13 68]))
def k237l2 : Cd :=
  .seq (.seq (.draw [vD (vM 105 12) 0,
 vD (vM 106 13) 0,
 vD (vP 107 (vb .leq 105 106)) 3,
 vD (vM 108 107) 7,
 vD (vT 108 109 (.mv (.s 4))) 15,
 vD (vT 108 110 (.mv (.s 0))) 15,
 vD (vT 108 111 (.mv (.s 12))) 15,
 vD (vT 108 112 (.ias 3 (.s 110) (.s 111))) 111,
 vD (vT 108 113 (.ld true 3 (.s 112))) 239,
 vD (vT 108 114 (.mv (.s 0))) 15,
 vD (vT 108 115 (.mv (.s 1))) 15,
 vD (vT 108 116 (.ias 3 (.s 114) (.s 115))) 1551,
 vD (vT 108 117 (.ld true 3 (.s 116))) 3599,
 ⟨⟨some (108, true), some 118, .inr (.val true (.s 109) [(.s 113), (.s 117)])⟩, some [], [], 8191, false⟩,
 vD (vT 108 119 (vc .lss 118 0)) 16383,
 vD (vP 120 (.pick (.s 108) (.s 119) (.c (.bool false)))) 32767])
 (.cond (.s 120) (.skip)
 (.exit 6)))
 (.block 7 (.region [vM 121 12,
 vP 122 (vc .add 121 1),
 vM 12 122]))
def k237l3 : Cd :=
  .seq (.seq (.draw [vD (vM 123 12) 0,
 vD (vM 124 13) 0,
 vD (vP 125 (vb .leq 123 124)) 3,
 vD (vM 126 125) 7,
 vD (vT 126 127 (.mv (.s 4))) 15,
 vD (vT 126 128 (.mv (.s 0))) 15,
 vD (vT 126 129 (.mv (.s 13))) 15,
 vD (vT 126 130 (.ias 3 (.s 128) (.s 129))) 111,
 vD (vT 126 131 (.ld true 3 (.s 130))) 239,
 vD (vT 126 132 (.mv (.s 0))) 15,
 vD (vT 126 133 (.mv (.s 1))) 15,
 vD (vT 126 134 (.ias 3 (.s 132) (.s 133))) 1551,
 vD (vT 126 135 (.ld true 3 (.s 134))) 3599,
 ⟨⟨some (126, true), some 136, .inr (.val true (.s 127) [(.s 131), (.s 135)])⟩, some [], [], 8191, false⟩,
 vD (vT 126 137 (vc .lss 136 0)) 16383,
 vD (vT 126 138 (.not (.s 137))) 32767,
 vD (vP 139 (.pick (.s 126) (.s 138) (.c (.bool false)))) 65535])
 (.cond (.s 139) (.skip)
 (.exit 8)))
 (.block 9 (.region [vM 140 13,
 vP 141 (vc .sub 140 1),
 vM 13 141]))
def k237l4 : Cd :=
  .block 5 (.seq (.block 6 (.loop k237l2))
 (.seq (.block 8 (.loop k237l3))
 (.seq (.seq (.region [vM 142 12,
 vM 143 13,
 vP 144 (vb .gtr 142 143)])
 (.cond (.s 144) (.exit 4)
 (.skip)))
 (.seq (.draw [vD (vM 145 0) 0,
 vD (vM 146 12) 0,
 vD (vM 147 0) 0,
 vD (vM 148 13) 0,
 vD (vM 149 0) 0,
 vD (vM 150 13) 0,
 vD (vI 151 3 149 150) 48,
 vD (vP 152 (.ld true 3 (.s 151))) 112,
 vD (vM 153 0) 0,
 vD (vM 154 12) 0,
 vD (vI 155 3 153 154) 768,
 vD (vP 156 (.ld true 3 (.s 155))) 1792,
 vD (vI 157 3 145 146) 4083,
 ⟨⟨none, none, .inl (.st 3 (.s 157) (.s 152))⟩, (some [.at 0]), [], 8179, false⟩,
 vD (vI 158 3 147 148) 16383,
 ⟨⟨none, none, .inl (.st 3 (.s 158) (.s 156))⟩, (some [.at 0]), [], 32767, false⟩])
 (.seq (.region [vM 159 12,
 vP 160 (vc .add 159 1),
 vM 12 160])
 (.region [vM 161 13,
 vP 162 (vc .sub 161 1),
 vM 13 162]))))))
def k237 : Cd :=
  .seq (.region [vP 10 (.mv (vi 0)),
 vP 11 (.mv (.c (.bool false)))])
 (.seq (.draw [vD (vM 14 0) 0,
 vD (vM 15 1) 0,
 vD (vM 16 0) 0,
 vD (vM 17 3) 0,
 vD (vM 18 0) 0,
 vD (vM 19 3) 0,
 vD (vI 20 3 18 19) 48,
 vD (vP 21 (.ld true 3 (.s 20))) 112,
 vD (vM 22 0) 0,
 vD (vM 23 1) 0,
 vD (vI 24 3 22 23) 768,
 vD (vP 25 (.ld true 3 (.s 24))) 1792,
 vD (vI 26 3 14 15) 4083,
 ⟨⟨none, none, .inl (.st 3 (.s 26) (.s 21))⟩, (some [.at 0]), [], 8179, false⟩,
 vD (vI 27 3 16 17) 16383,
 ⟨⟨none, none, .inl (.st 3 (.s 27) (.s 25))⟩, (some [.at 0]), [], 32767, false⟩])
 (.seq (.region [vM 28 1,
 vP 29 (vc .add 28 1),
 vM 30 2,
 vP 31 (vc .sub 30 1),
 vM 12 29,
 vM 13 31])
 (.seq (.block 0 (.loop k237l0))
 (.seq (.block 2 (.loop k237l1))
 (.seq (.seq (.region [vM 69 12,
 vM 70 13,
 vP 71 (vb .gtr 69 70)])
 (.cond (.s 71) (.seq (.draw [vD (vM 72 0) 0,
 vD (vM 73 13) 0,
 vD (vM 74 0) 0,
 vD (vM 75 1) 0,
 vD (vM 76 0) 0,
 vD (vM 77 1) 0,
 vD (vI 78 3 76 77) 48,
 vD (vP 79 (.ld true 3 (.s 78))) 112,
 vD (vM 80 0) 0,
 vD (vM 81 13) 0,
 vD (vI 82 3 80 81) 768,
 vD (vP 83 (.ld true 3 (.s 82))) 1792,
 vD (vI 84 3 72 73) 4083,
 ⟨⟨none, none, .inl (.st 3 (.s 84) (.s 79))⟩, (some [.at 0]), [], 8179, false⟩,
 vD (vI 85 3 74 75) 16383,
 ⟨⟨none, none, .inl (.st 3 (.s 85) (.s 83))⟩, (some [.at 0]), [], 32767, false⟩])
 (.seq (.region [vM 86 13,
 vM 10 86,
 vP 11 (.mv (.c (.bool true)))])
 (.ret)))
 (.skip)))
 (.seq (.draw [vD (vM 87 0) 0,
 vD (vM 88 12) 0,
 vD (vM 89 0) 0,
 vD (vM 90 13) 0,
 vD (vM 91 0) 0,
 vD (vM 92 13) 0,
 vD (vI 93 3 91 92) 48,
 vD (vP 94 (.ld true 3 (.s 93))) 112,
 vD (vM 95 0) 0,
 vD (vM 96 12) 0,
 vD (vI 97 3 95 96) 768,
 vD (vP 98 (.ld true 3 (.s 97))) 1792,
 vD (vI 99 3 87 88) 4083,
 ⟨⟨none, none, .inl (.st 3 (.s 99) (.s 94))⟩, (some [.at 0]), [], 8179, false⟩,
 vD (vI 100 3 89 90) 16383,
 ⟨⟨none, none, .inl (.st 3 (.s 100) (.s 98))⟩, (some [.at 0]), [], 32767, false⟩])
 (.seq (.region [vM 101 12,
 vP 102 (vc .add 101 1),
 vM 12 102])
 (.seq (.region [vM 103 13,
 vP 104 (vc .sub 103 1),
 vM 13 104])
 (.seq (.block 4 (.loop k237l4))
 (.seq (.draw [vD (vM 163 0) 0,
 vD (vM 164 13) 0,
 vD (vM 165 0) 0,
 vD (vM 166 1) 0,
 vD (vM 167 0) 0,
 vD (vM 168 1) 0,
 vD (vI 169 3 167 168) 48,
 vD (vP 170 (.ld true 3 (.s 169))) 112,
 vD (vM 171 0) 0,
 vD (vM 172 13) 0,
 vD (vI 173 3 171 172) 768,
 vD (vP 174 (.ld true 3 (.s 173))) 1792,
 vD (vI 175 3 163 164) 4083,
 ⟨⟨none, none, .inl (.st 3 (.s 175) (.s 170))⟩, (some [.at 0]), [], 8179, false⟩,
 vD (vI 176 3 165 166) 16383,
 ⟨⟨none, none, .inl (.st 3 (.s 176) (.s 174))⟩, (some [.at 0]), [], 32767, false⟩])
 (.seq (.region [vM 177 13,
 vM 10 177,
 vP 11 (.mv (.c (.bool false)))])
 (.ret))))))))))))
end Go.Proofs.YtgbkdjlekfjkfaaGreatDoor
