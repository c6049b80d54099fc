/- The small code of the functions of this program, as its own reader reads them: part B. -/
import Derived.Test.YtkbamkdgiglljaaGreatCodeA
namespace Go.Proofs.YtkbamkdgiglljaaGreat
open Go Go.Em
set_option maxRecDepth 100000
def k89 : Cd :=
  .seq (.region [⟨none, some 4, .inl (.alloc 25 [(.int .i64 0), (.int .i64 0), (.int .i64 0), (.int .i64 0), (.int .i64 0), (.int .i64 0), (.int .i64 0), (.string ⟨#[]⟩)])⟩])
 (.seq (.seq (.region [vM 7 0,
 vP 8 (.len (.s 7)),
 vP 9 (vc .lss 8 1)])
 (.cond (.s 9) (.region [⟨none, some 10, .inl (.mki 9 (.c (.string ⟨#[115, 108, 105, 99, 101, 115, 46, 77, 97, 120, 70, 117, 110, 99, 58, 32, 101, 109, 112, 116, 121, 32, 108, 105, 115, 116]⟩)))⟩,
 ⟨none, none, .inr (.pan (.s 10))⟩])
 (.skip)))
 (.seq (.region [vM 11 0,
 vP 12 (.ias 8 (.s 11) (vi 0)),
 vP 13 (.ld true 8 (.s 12)),
 ⟨none, some 5, .inl (.alloc 25 [(.int .i64 0), (.int .i64 0), (.int .i64 0), (.int .i64 0), (.int .i64 0), (.int .i64 0), (.int .i64 0), (.string ⟨#[]⟩)])⟩,
 ⟨none, none, .inl (.st 8 (.s 5) (.s 13))⟩])
 (.seq (.seq (.region [vP 6 (.mv (vi 1))])
 (.block 0 (.loop k89l0)))
 (.seq (.region [vP 32 (.ld true 8 (.s 5)),
 ⟨none, none, .inl (.st 8 (.s 4) (.s 32))⟩])
 (.ret)))))
def k90 : Cd :=
  .seq (.region [vP 2 (.box 25 8 (.s 0)),
 vP 3 (.box 25 8 (.s 1)),
 vP 4 (.mv (vi 0))])
 (.seq (.draw [vD (vF 5 2 3) 0,
 vD (vL 6 1 5) 1,
 vD (vF 7 3 3) 0,
 vD (vL 8 1 7) 4,
 vD (vN 9 79 [(.s 6), (.s 8)]) 15,
 vD (vF 10 2 0) 0,
 vD (vP 11 (.ld true 2 (.s 10))) 32,
 vD (vF 12 3 0) 0,
 vD (vP 13 (.ld true 2 (.s 12))) 128,
 vD (vN 14 60 [(.s 11), (.s 13)]) 511,
 ⟨vP 15 (.bst 3 1 2 [(.int .i64 0)] [(0, (.s 9)), (1, (.s 14))]), (some [.fr 15]), [], 1023, false⟩,
 vD (vN 16 78 [(.s 15)]) 2047,
 vD (vM 4 16) 4095])
 (.ret))
def k91 : Cd :=
  .seq (.region [vP 4 (.mv (.c (.slice none 0 0)))])
 (.seq (.seq (.region [vM 5 1,
 vP 6 (vc .lss 5 0)])
 (.cond (.s 6) (.region [⟨none, some 7, .inl (.mki 9 (.c (.string ⟨#[99, 97, 110, 110, 111, 116, 32, 98, 101, 32, 110, 101, 103, 97, 116, 105, 118, 101]⟩)))⟩,
 ⟨none, none, .inr (.pan (.s 7))⟩])
 (.skip)))
 (.seq (.seq (.region [vM 8 1,
 vM 9 0,
 vP 10 (.cap (.s 9)),
 vM 11 0,
 vP 12 (.len (.s 11)),
 vP 13 (vb .sub 10 12),
 vP 14 (vb .sub 8 13),
 vM 1 14])
 (.seq (.region [vM 15 1,
 vP 16 (vc .gtr 15 0)])
 (.cond (.s 16) (.region [vM 17 0,
 vM 18 0,
 vP 19 (.cap (.s 18)),
 vP 20 (.slc 1 (.s 17) none (some (.s 19)) none),
 vM 21 1,
 vP 22 (.apz 5 1 1 [(.int .u8 0)] (.s 20) (.s 21)),
 vM 23 0,
 vP 24 (.len (.s 23)),
 vP 25 (.slc 1 (.s 22) none (some (.s 24)) none),
 vM 0 25])
 (.skip))))
 (.seq (.region [vM 26 0,
 vM 4 26])
 (.ret))))
def k92l0 : Cd :=
  .seq (.region [vP 17 (vc .lss 16 2)])
 (.seq (.cond (.s 17) (.skip)
 (.exit 0))
 (.seq (.block 1 (.seq (.region [vM 18 16,
 vP 19 (.ixa true 2 2 (.s 15) (.s 16)),
 vP 8 (.alloc 71 [(.slice none 0 0), (.slice none 0 0)]),
 vM 7 18,
 ⟨none, none, .inl (.st 2 (.s 8) (.s 19))⟩])
 (.seq (.region [vP 21 (.ld true 2 (.s 8)),
 vN 22 103 [(.s 21)],
 vM 20 22,
 vP 23 (.ex (.s 20) 0),
 vP 24 (.ex (.s 20) 1),
 vP 9 (.alloc 124 [(.int .i64 0), (.slice none 0 0), (.slice none 0 0), (.slice none 0 0)]),
 ⟨none, none, .inl (.st 4 (.s 9) (.s 23))⟩,
 vM 10 24])
 (.seq (.region [vM 25 10,
 vM 26 25,
 vT 26 27 (.fa (.s 9) 0),
 vT 26 28 (.ld false 1 (.s 27)),
 vT 26 29 (.fa (.s 5) 0),
 vT 26 30 (.ld false 1 (.s 29)),
 vT 26 31 (vb .gtr 28 30),
 vP 32 (.pick (.s 26) (.s 31) (.c (.bool false)))])
 (.cond (.s 32) (.region [vP 33 (.ld true 4 (.s 9)),
 vM 34 7,
 ⟨none, none, .inl (.st 4 (.s 5) (.s 33))⟩,
 vM 6 34])
 (.skip))))))
 (.region [vP 35 (vc .add 16 1),
 vM 16 35])))
def k92 : Cd :=
  .seq (.region [vP 1 (.box 74 4 (.s 0)),
 vP 2 (.alloc 74 [(.slice none 0 0), (.slice none 0 0), (.slice none 0 0), (.slice none 0 0)]),
 vP 3 (.alloc 76 [(.slice none 0 0), (.int .i64 0), (.int .i64 0)]),
 vP 4 (.mv (vi 0))])
 (.seq (.region [vP 5 (.alloc 124 [(.int .i64 0), (.slice none 0 0), (.slice none 0 0), (.slice none 0 0)])])
 (.seq (.region [vP 6 (.mv (.c (.int .i64 (-1))))])
 (.seq (.seq (.region [vF 14 1 0,
 vP 15 (.ld true 4 (.s 14)),
 vP 16 (.mv (vi 0))])
 (.block 0 (.loop k92l0)))
 (.seq (.seq (.region [vM 36 6,
 vP 37 (.bin .eql (.s 36) (.c (.int .i64 (-1))))])
 (.cond (.s 37) (.seq (.region [vP 38 (.bld [(.slice none 0 0), (.slice none 0 0), (.slice none 0 0), (.slice none 0 0)] []),
 vP 39 (.bld [(.slice none 0 0), (.int .i64 0), (.int .i64 0)] []),
 ⟨none, none, .inl (.st 4 (.s 2) (.s 38))⟩,
 ⟨none, none, .inl (.st 3 (.s 3) (.s 39))⟩,
 vP 4 (.mv (vi 85))])
 (.ret))
 (.skip)))
 (.seq (.region [vF 41 5 1,
 vL 42 1 41,
 vF 43 5 2,
 vL 44 1 43,
 vP 45 (.bst 35 1 2 [(.slice none 0 0)] [(0, (.s 42)), (1, (.s 44))]),
 vN 46 63 [(.s 45)],
 vM 40 46,
 vP 47 (.ex (.s 40) 0),
 vP 48 (.ex (.s 40) 1),
 vM 11 47,
 vM 12 48])
 (.seq (.seq (.region [vM 49 12,
 vP 50 (.not (.s 49)),
 vM 51 50,
 vU 51 52 (.mv (.s 11)),
 vU 51 53 (.len (.s 52)),
 vU 51 54 (vc .gtr 53 200),
 vP 55 (.pick (.s 51) (.c (.bool true)) (.s 54))])
 (.cond (.s 55) (.seq (.region [vP 56 (.bld [(.slice none 0 0), (.slice none 0 0), (.slice none 0 0), (.slice none 0 0)] []),
 vP 57 (.bld [(.slice none 0 0), (.int .i64 0), (.int .i64 0)] []),
 ⟨none, none, .inl (.st 4 (.s 2) (.s 56))⟩,
 ⟨none, none, .inl (.st 3 (.s 3) (.s 57))⟩,
 vP 4 (.mv (vi 85))])
 (.ret))
 (.skip)))
 (.seq (.region [vP 13 (.alloc 74 [(.slice none 0 0), (.slice none 0 0), (.slice none 0 0), (.slice none 0 0)])])
 (.seq (.region [vM 58 6,
 vF 59 5 3,
 vL 60 1 59,
 vF 61 13 0,
 vP 62 (.iaa 2 2 (.s 61) (.s 58)),
 vF 63 62 0,
 ⟨none, none, .inl (.st 1 (.s 63) (.s 60))⟩])
 (.seq (.draw [vD (vP 64 (.ld true 4 (.s 13))) 0,
 vD (vM 65 11) 0,
 vD (vP 66 (.bld [(.slice none 0 0)] [(0, 1, (.s 65))])) 2,
 vD (vM 67 6) 0,
 vD (vF 68 5 0) 0,
 ⟨vL 69 1 68, some [], [.at 2], 16, false⟩,
 vD (vP 70 (.bld [(.slice none 0 0), (.int .i64 0), (.int .i64 0)] [(0, 1, (.s 66)), (1, 1, (.s 67)), (2, 1, (.s 69))])) 62,
 ⟨⟨none, none, .inl (.st 4 (.s 2) (.s 64))⟩, (some [.at 2]), [], 1, false⟩,
 ⟨⟨none, none, .inl (.st 3 (.s 3) (.s 70))⟩, (some [.at 3]), [], 255, false⟩,
 vD (vP 4 (.mv (vi 0))) 511])
 (.ret))))))))))
def k93l0 : Cd :=
  .seq (.region [vP 14 (vb .lss 13 12)])
 (.seq (.cond (.s 14) (.skip)
 (.exit 0))
 (.seq (.block 1 (.seq (.region [vM 15 13,
 vM 5 15])
 (.seq (.draw [vD (vM 16 0) 0,
 vD (vM 17 5) 0,
 vD (vI 18 8 16 17) 3,
 vD (vP 19 (.ld true 8 (.s 18))) 7,
 vD (vM 20 1) 0,
 vD (vM 21 5) 0,
 vD (vI 22 8 20 21) 48,
 vD (vP 23 (.ld true 8 (.s 22))) 112,
 vD (vP 24 (.eq true (.cells [.int, .int, .int, .int, .int, .int, .int, .str]) (.s 19) (.s 23))) 255])
 (.cond (.s 24) (.seq (.region [vP 4 (.mv (.c (.bool false)))])
 (.ret))
 (.skip)))))
 (.region [vP 25 (vc .add 13 1),
 vM 13 25])))
def k93 : Cd :=
  .seq (.region [vP 4 (.mv (.c (.bool false)))])
 (.seq (.seq (.region [vM 6 0,
 vP 7 (.len (.s 6)),
 vM 8 1,
 vP 9 (.len (.s 8)),
 vP 10 (vb .neq 7 9)])
 (.cond (.s 10) (.seq (.region [vP 4 (.mv (.c (.bool false)))])
 (.ret))
 (.skip)))
 (.seq (.seq (.region [vM 11 0,
 vP 12 (.len (.s 11)),
 vP 13 (.mv (vi 0))])
 (.block 0 (.loop k93l0)))
 (.seq (.region [vP 4 (.mv (.c (.bool true)))])
 (.ret))))
def k94 : Cd :=
  .seq (.region [vP 2 (.mv (.c (.slice none 0 0)))])
 (.seq (.seq (.region [vM 3 0,
 vP 4 (.eq false (.nil .slice) (.s 3) (.c (.slice none 0 0)))])
 (.cond (.s 4) (.seq (.region [vP 2 (.mv (.c (.slice none 0 0)))])
 (.ret))
 (.skip)))
 (.seq (.region [vP 5 (.bs 5 1 0 [(.int .u8 0)] []),
 vM 6 0,
 vP 7 (.app 5 1 1 (.s 5) (.s 6)),
 vM 2 7])
 (.ret)))
def k95 : Cd :=
  .seq (.region [vP 2 (.box 3 1 (.s 0)),
 vP 3 (.box 118 1 (.s 1)),
 vP 4 (.mv (.c .nilFunc))])
 (.seq (.region [vP 5 (.mkf (.func 104) [] [(.s 3), (.s 2)]),
 vM 4 5])
 (.ret))
def k96 : Cd :=
  .draw [vD (vM 3 0) 0,
 vD (vM 4 0) 0,
 vD (vP 5 (.nc (.s 4))) 2,
 vD (vF 6 5 1) 6,
 vD (vL 7 1 6) 14,
 vD (vL 8 1 1) 0,
 ⟨vP 9 (.app 5 1 1 (.s 7) (.s 8)), (some [.fr 9, .at 7]), [], 62, false⟩,
 vD (vP 10 (.nc (.s 3))) 127,
 vD (vF 11 10 1) 255,
 ⟨⟨none, none, .inl (.st 1 (.s 11) (.s 9))⟩, (some [.at 0]), [], 511, false⟩]
def k97 : Cd :=
  .seq (.region [vP 2 (.mv (.c (.bool false)))])
 (.seq (.region [vM 3 0,
 vM 4 0,
 vP 5 (vb .neq 3 4),
 vM 2 5])
 (.ret))
def k98 : Cd :=
  .seq (.region [vP 4 (.mv (.c (.slice none 0 0)))])
 (.seq (.seq (.region [vM 5 1,
 vP 6 (vc .lss 5 0)])
 (.cond (.s 6) (.region [⟨none, some 7, .inl (.mki 9 (.c (.string ⟨#[99, 97, 110, 110, 111, 116, 32, 98, 101, 32, 110, 101, 103, 97, 116, 105, 118, 101]⟩)))⟩,
 ⟨none, none, .inr (.pan (.s 7))⟩])
 (.skip)))
 (.seq (.seq (.region [vM 8 1,
 vM 9 0,
 vP 10 (.cap (.s 9)),
 vM 11 0,
 vP 12 (.len (.s 11)),
 vP 13 (vb .sub 10 12),
 vP 14 (vb .sub 8 13),
 vM 1 14])
 (.seq (.region [vM 15 1,
 vP 16 (vc .gtr 15 0)])
 (.cond (.s 16) (.region [vM 17 0,
 vM 18 0,
 vP 19 (.cap (.s 18)),
 vP 20 (.slc 8 (.s 17) none (some (.s 19)) none),
 vM 21 1,
 ⟨none, some 22, .inl (.apz 25 8 72 [(.int .i64 0), (.int .i64 0), (.int .i64 0), (.int .i64 0), (.int .i64 0), (.int .i64 0), (.int .i64 0), (.string ⟨#[]⟩)] (.s 20) (.s 21))⟩,
 vM 23 0,
 vP 24 (.len (.s 23)),
 vP 25 (.slc 8 (.s 22) none (some (.s 24)) none),
 vM 0 25])
 (.skip))))
 (.seq (.region [vM 26 0,
 vM 4 26])
 (.ret))))
def k99l0 : Cd :=
  .block 1 (.seq (.region [vM 21 2,
 vM 22 1,
 vP 23 (vb .sub 21 22),
 vM 12 23])
 (.seq (.seq (.region [vM 24 12,
 vP 25 (vc .leq 24 12)])
 (.cond (.s 25) (.seq (.region [vM 26 0,
 vM 27 1,
 vM 28 2,
 vM 29 4,
 vN 30 105 [(.s 26), (.s 27), (.s 28), (.s 29)]])
 (.ret))
 (.skip)))
 (.seq (.seq (.region [vM 31 3,
 vP 32 (vc .eql 31 0)])
 (.cond (.s 32) (.seq (.region [vM 33 0,
 vM 34 1,
 vM 35 2,
 vM 36 4,
 vN 37 106 [(.s 33), (.s 34), (.s 35), (.s 36)]])
 (.ret))
 (.skip)))
 (.seq (.seq (.region [vM 38 10,
 vP 39 (.not (.s 38))])
 (.cond (.s 39) (.seq (.region [vM 40 0,
 vM 41 1,
 vM 42 2,
 vM 43 4,
 vN 44 107 [(.s 40), (.s 41), (.s 42), (.s 43)]])
 (.region [vM 45 3,
 vP 46 (vc .sub 45 1),
 vM 3 46]))
 (.skip)))
 (.seq (.region [vM 48 0,
 vM 49 1,
 vM 50 2,
 vM 51 4,
 vN 52 108 [(.s 48), (.s 49), (.s 50), (.s 51)],
 vM 47 52,
 vP 53 (.ex (.s 47) 0),
 vP 54 (.ex (.s 47) 1),
 vM 13 53,
 vM 14 54])
 (.seq (.seq (.region [vM 55 14,
 vP 56 (vc .eql 55 2)])
 (.cond (.s 56) (.seq (.region [vM 57 0,
 vM 58 1,
 vM 59 2,
 vM 60 4,
 vN 61 109 [(.s 57), (.s 58), (.s 59), (.s 60)]])
 (.seq (.region [vM 62 2,
 vP 63 (vc .sub 62 1),
 vM 64 13,
 vM 65 1,
 vP 66 (vb .sub 64 65),
 vP 67 (vb .sub 63 66),
 vM 13 67])
 (.region [vP 14 (.mv (vi 1))])))
 (.skip)))
 (.seq (.seq (.region [vM 68 10,
 vM 69 68,
 vT 69 70 (.mv (.s 11)),
 vP 71 (.pick (.s 69) (.s 70) (.c (.bool false))),
 vM 72 71,
 vT 72 73 (.mv (.s 14)),
 vT 72 74 (vc .eql 73 1),
 vP 75 (.pick (.s 72) (.s 74) (.c (.bool false)))])
 (.cond (.s 75) (.seq (.region [vM 76 0,
 vM 77 1,
 vM 78 2,
 vM 79 4,
 vN 80 110 [(.s 76), (.s 77), (.s 78), (.s 79)]])
 (.cond (.s 80) (.ret)
 (.skip)))
 (.skip)))
 (.seq (.seq (.draw [vD (vM 81 1) 0,
 vD (vP 82 (vc .gtr 81 0)) 1,
 vD (vM 83 82) 3,
 vD (vT 83 84 (.mv (.s 4))) 7,
 vD (vT 83 85 (.mv (.s 0))) 7,
 vD (vT 83 86 (.mv (.s 1))) 7,
 vD (vT 83 87 (vc .sub 86 1)) 39,
 vD (vT 83 88 (.ias 8 (.s 85) (.s 87))) 119,
 vD (vT 83 89 (.ld true 8 (.s 88))) 247,
 vD (vT 83 90 (.mv (.s 0))) 7,
 vD (vT 83 91 (.mv (.s 13))) 7,
 vD (vT 83 92 (.ias 8 (.s 90) (.s 91))) 1543,
 vD (vT 83 93 (.ld true 8 (.s 92))) 3591,
 ⟨⟨some (83, true), some 94, .inr (.val true (.s 84) [(.s 89), (.s 93)])⟩, some [], [], 8191, false⟩,
 vD (vT 83 95 (vc .lss 94 0)) 16383,
 vD (vT 83 96 (.not (.s 95))) 32767,
 vD (vP 97 (.pick (.s 83) (.s 96) (.c (.bool false)))) 65535])
 (.cond (.s 97) (.seq (.region [vM 98 0,
 vM 99 1,
 vM 100 2,
 vM 101 13,
 vM 102 4,
 vN 103 111 [(.s 98), (.s 99), (.s 100), (.s 101), (.s 102)],
 vM 15 103])
 (.seq (.region [vM 104 15,
 vM 1 104])
 (.exit 1)))
 (.skip)))
 (.seq (.region [vM 106 0,
 vM 107 1,
 vM 108 2,
 vM 109 13,
 vM 110 4,
 vN 111 112 [(.s 106), (.s 107), (.s 108), (.s 109), (.s 110)],
 vM 105 111,
 vP 112 (.ex (.s 105) 0),
 vP 113 (.ex (.s 105) 1),
 vM 16 112,
 vM 17 113])
 (.seq (.region [vM 114 17,
 vM 11 114])
 (.seq (.region [vM 115 16,
 vM 116 1,
 vP 117 (vb .sub 115 116),
 vM 118 2,
 vM 119 16,
 vP 120 (vb .sub 118 119),
 vM 18 117,
 vM 19 120])
 (.seq (.region [vM 121 12,
 vP 122 (vc .quo 121 8),
 vM 20 122])
 (.seq (.region [vM 123 18,
 vM 124 19,
 vP 125 (vb .lss 123 124)])
 (.cond (.s 125) (.seq (.region [vM 126 18,
 vM 127 20,
 vP 128 (vb .geq 126 127),
 vM 10 128])
 (.seq (.region [vM 129 0,
 vM 130 1,
 vM 131 16,
 vM 132 3,
 vM 133 4,
 vN 134 99 [(.s 129), (.s 130), (.s 131), (.s 132), (.s 133)]])
 (.region [vM 135 16,
 vP 136 (vc .add 135 1),
 vM 1 136])))
 (.seq (.region [vM 137 19,
 vM 138 20,
 vP 139 (vb .geq 137 138),
 vM 10 139])
 (.seq (.region [vM 140 0,
 vM 141 16,
 vP 142 (vc .add 141 1),
 vM 143 2,
 vM 144 3,
 vM 145 4,
 vN 146 99 [(.s 140), (.s 142), (.s 143), (.s 144), (.s 145)]])
 (.region [vM 147 16,
 vM 2 147])))))))))))))))))
def k99 : Cd :=
  .seq (.region [vP 10 (.mv (.c (.bool true)))])
 (.seq (.region [vP 11 (.mv (.c (.bool true)))])
 (.block 0 (.loop k99l0)))
def k100 : Cd :=
  .seq (.region [vP 2 (.mv (vi 0))])
 (.seq (.cond (.c (.bool false)) (.seq (.region [vM 3 0,
 vP 4 (.cvi .u32 (.s 3)),
 vN 5 113 [(.s 4)],
 vM 2 5])
 (.ret))
 (.skip))
 (.seq (.region [vM 6 0,
 vN 7 114 [(.s 6)],
 vM 2 7])
 (.ret)))
def k101 : Cd :=
  .seq (.region [vP 4 (.box 25 8 (.s 0)),
 vP 5 (.mv (.c (.bool false)))])
 (.seq (.region [vF 6 4 5,
 vP 7 (.ld true 2 (.s 6)),
 vF 8 1 0,
 vP 9 (.ld true 2 (.s 8)),
 vP 10 (.eq false (.cells [.int, .int]) (.s 7) (.s 9)),
 vM 11 10,
 vT 11 12 (.ld false 1 (.s 2)),
 vT 11 13 (.fa (.s 4) 2),
 vT 11 14 (.ld false 1 (.s 13)),
 ⟨some (11, true), some 15, .inr (.fn 102 [(.s 12), (.s 14)])⟩,
 vP 16 (.pick (.s 11) (.s 15) (.c (.bool false))),
 vM 17 16,
 vT 17 18 (.ld true 2 (.s 3)),
 vT 17 19 (.ld true 8 (.s 4)),
 ⟨some (17, true), some 20, .inr (.fn 67 [(.s 18), (.s 19)])⟩,
 vP 21 (.pick (.s 17) (.s 20) (.c (.bool false))),
 vM 22 21,
 vT 22 23 (.ld true 8 (.s 4)),
 vT 22 24 (.ld true 8 (.s 1)),
 ⟨some (22, true), some 25, .inr (.fn 90 [(.s 23), (.s 24)])⟩,
 vT 22 26 (vc .gtr 25 0),
 vP 27 (.pick (.s 22) (.s 26) (.c (.bool false))),
 vM 5 27])
 (.ret))
def k102 : Cd :=
  .seq (.region [vP 4 (.mv (.c (.bool false)))])
 (.seq (.region [vM 5 0,
 vM 6 1,
 vN 7 115 [(.s 5), (.s 6)],
 vP 8 (vc .geq 7 0),
 vM 4 8])
 (.ret))
def k103 : Cd :=
  .seq (.region [vP 1 (.box 71 2 (.s 0)),
 vP 2 (.alloc 124 [(.int .i64 0), (.slice none 0 0), (.slice none 0 0), (.slice none 0 0)]),
 vP 3 (.mv (.c (.bool false)))])
 (.seq (.region [vF 10 1 0,
 vL 11 1 10,
 vF 12 1 1,
 vL 13 1 12,
 vP 14 (.bst 26 1 2 [(.slice none 0 0)] [(0, (.s 11)), (1, (.s 13))]),
 vN 15 70 [(.s 14)],
 vM 4 15])
 (.seq (.seq (.region [vM 16 4,
 vP 17 (.len (.s 16)),
 vP 18 (vc .lss 17 14)])
 (.cond (.s 18) (.seq (.region [vP 19 (.bld [(.int .i64 0), (.slice none 0 0), (.slice none 0 0), (.slice none 0 0)] []),
 ⟨none, none, .inl (.st 4 (.s 2) (.s 19))⟩,
 vP 3 (.mv (.c (.bool false)))])
 (.ret))
 (.skip)))
 (.seq (.region [vM 20 4,
 vP 21 (.slc 1 (.s 20) (some (vi 6)) none none),
 vN 22 40 [(.s 21)],
 vP 23 (.cvi .i64 (.s 22)),
 vM 5 23])
 (.seq (.seq (.region [vM 24 5,
 vN 25 39 [(.s 24), (vi 1), (vi 1000000000)],
 vP 26 (.not (.s 25)),
 vM 27 26,
 vU 27 28 (.mv (.s 4)),
 vU 27 29 (.mv (.s 5)),
 ⟨some (27, false), some 30, .inr (.fn 71 [(.s 29)])⟩,
 ⟨some (27, false), some 31, .inr (.fn 116 [(.s 28), (.s 30)])⟩,
 vU 27 32 (.not (.s 31)),
 vP 33 (.pick (.s 27) (.c (.bool true)) (.s 32))])
 (.cond (.s 33) (.seq (.region [vP 34 (.bld [(.int .i64 0), (.slice none 0 0), (.slice none 0 0), (.slice none 0 0)] []),
 ⟨none, none, .inl (.st 4 (.s 2) (.s 34))⟩,
 vP 3 (.mv (.c (.bool false)))])
 (.ret))
 (.skip)))
 (.seq (.region [vM 36 4,
 vP 37 (.slc 1 (.s 36) (some (vi 14)) none none),
 vN 38 19 [(.s 37)],
 vM 35 38,
 vP 39 (.ex (.s 35) 0),
 vP 40 (.ex (.s 35) 1),
 vM 6 39,
 vM 7 40])
 (.seq (.region [vM 41 7,
 vP 42 (.bin .add (vi 14) (.s 41)),
 vM 8 42])
 (.seq (.seq (.draw [vD (vM 43 4) 0,
 vD (vM 44 8) 0,
 vD (vP 45 (.slc 1 (.s 43) (some (.s 44)) none none)) 3,
 vD (vN 46 72 []) 0,
 vD (vN 47 116 [(.s 45), (.s 46)]) 15,
 vD (vP 48 (.not (.s 47))) 31])
 (.cond (.s 48) (.seq (.region [vP 49 (.bld [(.int .i64 0), (.slice none 0 0), (.slice none 0 0), (.slice none 0 0)] []),
 ⟨none, none, .inl (.st 4 (.s 2) (.s 49))⟩,
 vP 3 (.mv (.c (.bool false)))])
 (.ret))
 (.skip)))
 (.seq (.region [vM 50 8,
 vN 51 72 [],
 vP 52 (.len (.s 51)),
 vP 53 (vb .add 50 52),
 vM 8 53])
 (.seq (.region [vM 55 4,
 vM 56 8,
 vP 57 (.slc 1 (.s 55) (some (.s 56)) none none),
 vN 58 19 [(.s 57)],
 vM 54 58,
 vP 59 (.ex (.s 54) 0),
 vP 60 (.ex (.s 54) 1),
 vM 9 59,
 vM 7 60])
 (.seq (.region [vM 61 8,
 vM 62 7,
 vP 63 (vb .add 61 62),
 vM 8 63])
 (.seq (.region [vM 64 5,
 vM 65 6,
 vM 66 9,
 vM 67 4,
 vM 68 8,
 vP 69 (.slc 1 (.s 67) none (some (.s 68)) none),
 vP 70 (.bld [(.int .i64 0), (.slice none 0 0), (.slice none 0 0), (.slice none 0 0)] [(0, 1, (.s 64)), (1, 1, (.s 65)), (2, 1, (.s 66)), (3, 1, (.s 69))]),
 ⟨none, none, .inl (.st 4 (.s 2) (.s 70))⟩,
 vP 3 (.mv (.c (.bool true)))])
 (.ret))))))))))))
def k104 : Cd :=
  .seq (.region [vP 3 (.box 74 4 (.s 0)),
 vP 4 (.alloc 74 [(.slice none 0 0), (.slice none 0 0), (.slice none 0 0), (.slice none 0 0)])])
 (.seq (.region [vP 5 (.ld true 4 (.s 3)),
 vN 6 75 [(.s 5)],
 ⟨none, none, .inl (.st 4 (.s 3) (.s 6))⟩])
 (.seq (.draw [vD (vL 7 1 1) 0,
 vD (vL 8 1 2) 0,
 vD (vF 9 3 0) 0,
 vD (vP 10 (.iaa 2 2 (.s 9) (.s 8))) 6,
 ⟨⟨none, some 11, .inr (.val false (.s 7) [(.s 10)])⟩, none, [], 15, false⟩])
 (.seq (.region [vP 12 (.ld true 4 (.s 3)),
 ⟨none, none, .inl (.st 4 (.s 4) (.s 12))⟩])
 (.ret))))
def k105l0 : Cd :=
  .seq (.seq (.draw [vD (vM 18 9) 0,
 vD (vM 19 1) 0,
 vD (vP 20 (vb .gtr 18 19)) 3,
 vD (vM 21 20) 7,
 vD (vT 21 22 (.mv (.s 3))) 15,
 vD (vT 21 23 (.mv (.s 0))) 15,
 vD (vT 21 24 (.mv (.s 9))) 15,
 vD (vT 21 25 (.ias 8 (.s 23) (.s 24))) 111,
 vD (vT 21 26 (.ld true 8 (.s 25))) 239,
 vD (vT 21 27 (.mv (.s 0))) 15,
 vD (vT 21 28 (.mv (.s 9))) 15,
 vD (vT 21 29 (vc .sub 28 1)) 1039,
 vD (vT 21 30 (.ias 8 (.s 27) (.s 29))) 3599,
 vD (vT 21 31 (.ld true 8 (.s 30))) 7695,
 ⟨⟨some (21, true), some 32, .inr (.val true (.s 22) [(.s 26), (.s 31)])⟩, some [], [], 16383, false⟩,
 vD (vT 21 33 (vc .lss 32 0)) 32767,
 vD (vP 34 (.pick (.s 21) (.s 33) (.c (.bool false)))) 65535])
 (.cond (.s 34) (.skip)
 (.exit 2)))
 (.seq (.block 3 (.draw [vD (vM 37 0) 0,
 vD (vM 38 9) 0,
 vD (vM 39 0) 0,
 vD (vM 40 9) 0,
 vD (vP 41 (vc .sub 40 1)) 8,
 vD (vM 42 0) 0,
 vD (vM 43 9) 0,
 vD (vP 44 (vc .sub 43 1)) 64,
 vD (vI 45 8 42 44) 224,
 vD (vP 46 (.ld true 8 (.s 45))) 480,
 vD (vM 47 0) 0,
 vD (vM 48 9) 0,
 vD (vI 49 8 47 48) 3072,
 vD (vP 50 (.ld true 8 (.s 49))) 7168,
 vD (vI 51 8 37 38) 16355,
 ⟨⟨none, none, .inl (.st 8 (.s 51) (.s 46))⟩, (some [.at 0]), [], 32739, false⟩,
 vD (vI 52 8 39 41) 65535,
 ⟨⟨none, none, .inl (.st 8 (.s 52) (.s 50))⟩, (some [.at 0]), [], 131071, false⟩]))
 (.region [vM 35 9,
 vP 36 (vc .sub 35 1),
 vM 9 36]))
def k105l1 : Cd :=
  .seq (.seq (.region [vM 12 8,
 vM 13 2,
 vP 14 (vb .lss 12 13)])
 (.cond (.s 14) (.skip)
 (.exit 0)))
 (.seq (.block 1 (.seq (.region [vM 17 8,
 vM 9 17])
 (.block 2 (.loop k105l0))))
 (.region [vM 15 8,
 vP 16 (vc .add 15 1),
 vM 8 16]))
def k105 : Cd :=
  .seq (.region [vM 10 1,
 vP 11 (vc .add 10 1),
 vM 8 11])
 (.block 0 (.loop k105l1))
def k106l0 : Cd :=
  .seq (.seq (.region [vM 20 11,
 vP 21 (vc .geq 20 0)])
 (.cond (.s 21) (.skip)
 (.exit 0)))
 (.seq (.block 1 (.region [vM 24 0,
 vM 25 11,
 vM 26 10,
 vM 27 8,
 vM 28 3,
 vN 29 117 [(.s 24), (.s 25), (.s 26), (.s 27), (.s 28)]]))
 (.region [vM 22 11,
 vP 23 (vc .sub 22 1),
 vM 11 23]))
def k106l1 : Cd :=
  .seq (.seq (.region [vM 32 12,
 vP 33 (vc .geq 32 0)])
 (.cond (.s 33) (.skip)
 (.exit 2)))
 (.seq (.block 3 (.seq (.draw [vD (vM 36 0) 0,
 vD (vM 37 8) 0,
 vD (vM 38 0) 0,
 vD (vM 39 8) 0,
 vD (vM 40 12) 0,
 vD (vP 41 (vb .add 39 40)) 24,
 vD (vM 42 0) 0,
 vD (vM 43 8) 0,
 vD (vM 44 12) 0,
 vD (vP 45 (vb .add 43 44)) 384,
 vD (vI 46 8 42 45) 960,
 vD (vP 47 (.ld true 8 (.s 46))) 1984,
 vD (vM 48 0) 0,
 vD (vM 49 8) 0,
 vD (vI 50 8 48 49) 12288,
 vD (vP 51 (.ld true 8 (.s 50))) 28672,
 vD (vI 52 8 36 37) 65475,
 ⟨⟨none, none, .inl (.st 8 (.s 52) (.s 47))⟩, (some [.at 0]), [], 131011, false⟩,
 vD (vI 53 8 38 41) 262143,
 ⟨⟨none, none, .inl (.st 8 (.s 53) (.s 51))⟩, (some [.at 0]), [], 524287, false⟩])
 (.region [vM 54 0,
 vM 55 9,
 vM 56 12,
 vM 57 8,
 vM 58 3,
 vN 59 117 [(.s 54), (.s 55), (.s 56), (.s 57), (.s 58)]])))
 (.region [vM 34 12,
 vP 35 (vc .sub 34 1),
 vM 12 35]))
def k106 : Cd :=
  .seq (.region [vM 13 1,
 vM 8 13])
 (.seq (.region [vP 9 (.mv (vi 0))])
 (.seq (.region [vM 14 2,
 vM 15 1,
 vP 16 (vb .sub 14 15),
 vM 10 16])
 (.seq (.seq (.region [vM 17 10,
 vP 18 (vc .sub 17 1),
 vP 19 (vc .quo 18 2),
 vM 11 19])
 (.block 0 (.loop k106l0)))
 (.seq (.region [vM 30 10,
 vP 31 (vc .sub 30 1),
 vM 12 31])
 (.block 2 (.loop k106l1))))))
def k107l0 : Cd :=
  .seq (.seq (.region [vM 28 11,
 vM 29 1,
 vM 30 8,
 vP 31 (vc .quo 30 4),
 vP 32 (vc .mul 31 2),
 vP 33 (vb .add 29 32),
 vP 34 (vc .add 33 1),
 vP 35 (vb .leq 28 34)])
 (.cond (.s 35) (.skip)
 (.exit 0)))
 (.seq (.block 1 (.seq (.region [vN 38 119 [(.s 9)],
 vM 39 10,
 vP 40 (.bin .sub (.s 39) (.c (.int .u64 1))),
 vP 41 (vb .and 38 40),
 vP 42 (.cvi .i64 (.s 41)),
 vM 12 42])
 (.seq (.seq (.region [vM 43 12,
 vM 44 8,
 vP 45 (vb .geq 43 44)])
 (.cond (.s 45) (.region [vM 46 12,
 vM 47 8,
 vP 48 (vb .sub 46 47),
 vM 12 48])
 (.skip)))
 (.draw [vD (vM 49 0) 0,
 vD (vM 50 11) 0,
 vD (vM 51 0) 0,
 vD (vM 52 1) 0,
 vD (vM 53 12) 0,
 vD (vP 54 (vb .add 52 53)) 24,
 vD (vM 55 0) 0,
 vD (vM 56 1) 0,
 vD (vM 57 12) 0,
 vD (vP 58 (vb .add 56 57)) 384,
 vD (vI 59 8 55 58) 960,
 vD (vP 60 (.ld true 8 (.s 59))) 1984,
 vD (vM 61 0) 0,
 vD (vM 62 11) 0,
 vD (vI 63 8 61 62) 12288,
 vD (vP 64 (.ld true 8 (.s 63))) 28672,
 vD (vI 65 8 49 50) 65475,
 ⟨⟨none, none, .inl (.st 8 (.s 65) (.s 60))⟩, (some [.at 0]), [], 131011, false⟩,
 vD (vI 66 8 51 54) 262143,
 ⟨⟨none, none, .inl (.st 8 (.s 66) (.s 64))⟩, (some [.at 0]), [], 524287, false⟩]))))
 (.region [vM 36 11,
 vP 37 (vc .add 36 1),
 vM 11 37]))
def k107 : Cd :=
  .seq (.region [vM 13 2,
 vM 14 1,
 vP 15 (vb .sub 13 14),
 vM 8 15])
 (.seq (.region [vM 16 8,
 vP 17 (vc .geq 16 8)])
 (.cond (.s 17) (.seq (.region [vM 18 8,
 vP 19 (.cvi .u64 (.s 18)),
 vP 9 (.alloc 140 [(.int .u64 0)]),
 ⟨none, none, .inl (.st 1 (.s 9) (.s 19))⟩])
 (.seq (.region [vM 20 8,
 vN 21 118 [(.s 20)],
 vM 10 21])
 (.seq (.region [vM 22 1,
 vM 23 8,
 vP 24 (vc .quo 23 4),
 vP 25 (vc .mul 24 2),
 vP 26 (vb .add 22 25),
 vP 27 (vc .sub 26 1),
 vM 11 27])
 (.block 0 (.loop k107l0)))))
 (.skip)))
def k108 : Cd :=
  .seq (.region [vP 8 (.mv (vi 0)),
 vP 9 (.mv (vi 0))])
 (.seq (.region [vM 15 2,
 vM 16 1,
 vP 17 (vb .sub 15 16),
 vM 10 17])
 (.seq (.region [vP 11 (.alloc 3 [(.int .i64 0)])])
 (.seq (.region [vM 18 1,
 vM 19 10,
 vP 20 (vc .quo 19 4),
 vP 21 (vc .mul 20 1),
 vP 22 (vb .add 18 21),
 vM 12 22])
 (.seq (.region [vM 23 1,
 vM 24 10,
 vP 25 (vc .quo 24 4),
 vP 26 (vc .mul 25 2),
 vP 27 (vb .add 23 26),
 vM 13 27])
 (.seq (.region [vM 28 1,
 vM 29 10,
 vP 30 (vc .quo 29 4),
 vP 31 (vc .mul 30 3),
 vP 32 (vb .add 28 31),
 vM 14 32])
 (.seq (.seq (.region [vM 33 10,
 vP 34 (vc .geq 33 8)])
 (.cond (.s 34) (.seq (.seq (.region [vM 35 10,
 vP 36 (vc .geq 35 50)])
 (.cond (.s 36) (.seq (.region [vM 37 0,
 vM 38 12,
 vM 39 3,
 vN 40 120 [(.s 37), (.s 38), (.s 11), (.s 39)],
 vM 12 40])
 (.seq (.region [vM 41 0,
 vM 42 13,
 vM 43 3,
 vN 44 120 [(.s 41), (.s 42), (.s 11), (.s 43)],
 vM 13 44])
 (.region [vM 45 0,
 vM 46 14,
 vM 47 3,
 vN 48 120 [(.s 45), (.s 46), (.s 11), (.s 47)],
 vM 14 48])))
 (.skip)))
 (.region [vM 49 0,
 vM 50 12,
 vM 51 13,
 vM 52 14,
 vM 53 3,
 vN 54 121 [(.s 49), (.s 50), (.s 51), (.s 52), (.s 11), (.s 53)],
 vM 13 54]))
 (.skip)))
 (.seq (.region [vL 55 1 11])
 (.block 0 (.seq (.region [vP 58 (vc .eql 55 0),
 vM 57 58])
 (.cond (.s 57) (.seq (.region [vM 59 13,
 vM 8 59,
 vP 9 (.mv (vi 1))])
 (.ret))
 (.seq (.region [vP 61 (vc .eql 55 12),
 vM 60 61])
 (.cond (.s 60) (.seq (.region [vM 62 13,
 vM 8 62,
 vP 9 (.mv (vi 2))])
 (.ret))
 (.seq (.region [vM 56 13,
 vM 8 56,
 vP 9 (.mv (vi 0))])
 (.ret))))))))))))))
def k109l0 : Cd :=
  .seq (.seq (.region [vM 13 8,
 vM 14 9,
 vP 15 (vb .lss 13 14)])
 (.cond (.s 15) (.skip)
 (.exit 0)))
 (.block 1 (.seq (.draw [vD (vM 16 0) 0,
 vD (vM 17 8) 0,
 vD (vM 18 0) 0,
 vD (vM 19 9) 0,
 vD (vM 20 0) 0,
 vD (vM 21 9) 0,
 vD (vI 22 8 20 21) 48,
 vD (vP 23 (.ld true 8 (.s 22))) 112,
 vD (vM 24 0) 0,
 vD (vM 25 8) 0,
 vD (vI 26 8 24 25) 768,
 vD (vP 27 (.ld true 8 (.s 26))) 1792,
 vD (vI 28 8 16 17) 4083,
 ⟨⟨none, none, .inl (.st 8 (.s 28) (.s 23))⟩, (some [.at 0]), [], 8179, false⟩,
 vD (vI 29 8 18 19) 16383,
 ⟨⟨none, none, .inl (.st 8 (.s 29) (.s 27))⟩, (some [.at 0]), [], 32767, false⟩])
 (.seq (.region [vM 30 8,
 vP 31 (vc .add 30 1),
 vM 8 31])
 (.region [vM 32 9,
 vP 33 (vc .sub 32 1),
 vM 9 33]))))
def k109 : Cd :=
  .seq (.region [vM 10 1,
 vM 8 10])
 (.seq (.region [vM 11 2,
 vP 12 (vc .sub 11 1),
 vM 9 12])
 (.block 0 (.loop k109l0)))
def k110l0 : Cd :=
  .seq (.seq (.draw [vD (vM 19 9) 0,
 vD (vM 20 2) 0,
 vD (vP 21 (vb .lss 19 20)) 3,
 vD (vM 22 21) 7,
 vD (vT 22 23 (.mv (.s 3))) 15,
 vD (vT 22 24 (.mv (.s 0))) 15,
 vD (vT 22 25 (.mv (.s 9))) 15,
 vD (vT 22 26 (.ias 8 (.s 24) (.s 25))) 111,
 vD (vT 22 27 (.ld true 8 (.s 26))) 239,
 vD (vT 22 28 (.mv (.s 0))) 15,
 vD (vT 22 29 (.mv (.s 9))) 15,
 vD (vT 22 30 (vc .sub 29 1)) 1039,
 vD (vT 22 31 (.ias 8 (.s 28) (.s 30))) 3599,
 vD (vT 22 32 (.ld true 8 (.s 31))) 7695,
 ⟨⟨some (22, true), some 33, .inr (.val true (.s 23) [(.s 27), (.s 32)])⟩, some [], [], 16383, false⟩,
 vD (vT 22 34 (vc .lss 33 0)) 32767,
 vD (vT 22 35 (.not (.s 34))) 65535,
 vD (vP 36 (.pick (.s 22) (.s 35) (.c (.bool false)))) 131071])
 (.cond (.s 36) (.skip)
 (.exit 2)))
 (.block 3 (.region [vM 37 9,
 vP 38 (vc .add 37 1),
 vM 9 38]))
def k110l1 : Cd :=
  .seq (.seq (.region [vM 68 11,
 vP 69 (vc .geq 68 1)])
 (.cond (.s 69) (.skip)
 (.exit 4)))
 (.seq (.block 5 (.seq (.seq (.draw [vD (vM 72 3) 0,
 vD (vM 73 0) 0,
 vD (vM 74 11) 0,
 vD (vI 75 8 73 74) 6,
 vD (vP 76 (.ld true 8 (.s 75))) 14,
 vD (vM 77 0) 0,
 vD (vM 78 11) 0,
 vD (vP 79 (vc .sub 78 1)) 64,
 vD (vI 80 8 77 79) 224,
 vD (vP 81 (.ld true 8 (.s 80))) 480,
 ⟨⟨none, some 82, .inr (.val false (.s 72) [(.s 76), (.s 81)])⟩, some [], [], 1023, false⟩,
 vD (vP 83 (vc .lss 82 0)) 2047,
 vD (vP 84 (.not (.s 83))) 4095])
 (.cond (.s 84) (.exit 4)
 (.skip)))
 (.draw [vD (vM 85 0) 0,
 vD (vM 86 11) 0,
 vD (vM 87 0) 0,
 vD (vM 88 11) 0,
 vD (vP 89 (vc .sub 88 1)) 8,
 vD (vM 90 0) 0,
 vD (vM 91 11) 0,
 vD (vP 92 (vc .sub 91 1)) 64,
 vD (vI 93 8 90 92) 224,
 vD (vP 94 (.ld true 8 (.s 93))) 480,
 vD (vM 95 0) 0,
 vD (vM 96 11) 0,
 vD (vI 97 8 95 96) 3072,
 vD (vP 98 (.ld true 8 (.s 97))) 7168,
 vD (vI 99 8 85 86) 16355,
 ⟨⟨none, none, .inl (.st 8 (.s 99) (.s 94))⟩, (some [.at 0]), [], 32739, false⟩,
 vD (vI 100 8 87 89) 65535,
 ⟨⟨none, none, .inl (.st 8 (.s 100) (.s 98))⟩, (some [.at 0]), [], 131071, false⟩])))
 (.region [vM 70 11,
 vP 71 (vc .sub 70 1),
 vM 11 71]))
def k110l2 : Cd :=
  .seq (.seq (.region [vM 107 12,
 vM 108 2,
 vP 109 (vb .lss 107 108)])
 (.cond (.s 109) (.skip)
 (.exit 6)))
 (.seq (.block 7 (.seq (.seq (.draw [vD (vM 112 3) 0,
 vD (vM 113 0) 0,
 vD (vM 114 12) 0,
 vD (vI 115 8 113 114) 6,
 vD (vP 116 (.ld true 8 (.s 115))) 14,
 vD (vM 117 0) 0,
 vD (vM 118 12) 0,
 vD (vP 119 (vc .sub 118 1)) 64,
 vD (vI 120 8 117 119) 224,
 vD (vP 121 (.ld true 8 (.s 120))) 480,
 ⟨⟨none, some 122, .inr (.val false (.s 112) [(.s 116), (.s 121)])⟩, some [], [], 1023, false⟩,
 vD (vP 123 (vc .lss 122 0)) 2047,
 vD (vP 124 (.not (.s 123))) 4095])
 (.cond (.s 124) (.exit 6)
 (.skip)))
 (.draw [vD (vM 125 0) 0,
 vD (vM 126 12) 0,
 vD (vM 127 0) 0,
 vD (vM 128 12) 0,
 vD (vP 129 (vc .sub 128 1)) 8,
 vD (vM 130 0) 0,
 vD (vM 131 12) 0,
 vD (vP 132 (vc .sub 131 1)) 64,
 vD (vI 133 8 130 132) 224,
 vD (vP 134 (.ld true 8 (.s 133))) 480,
 vD (vM 135 0) 0,
 vD (vM 136 12) 0,
 vD (vI 137 8 135 136) 3072,
 vD (vP 138 (.ld true 8 (.s 137))) 7168,
 vD (vI 139 8 125 126) 16355,
 ⟨⟨none, none, .inl (.st 8 (.s 139) (.s 134))⟩, (some [.at 0]), [], 32739, false⟩,
 vD (vI 140 8 127 129) 65535,
 ⟨⟨none, none, .inl (.st 8 (.s 140) (.s 138))⟩, (some [.at 0]), [], 131071, false⟩])))
 (.region [vM 110 12,
 vP 111 (vc .add 110 1),
 vM 12 111]))
def k110l3 : Cd :=
  .seq (.seq (.region [vM 15 10,
 vP 16 (vc .lss 15 5)])
 (.cond (.s 16) (.skip)
 (.exit 0)))
 (.seq (.block 1 (.seq (.block 2 (.loop k110l0))
 (.seq (.seq (.region [vM 39 9,
 vM 40 2,
 vP 41 (vb .eql 39 40)])
 (.cond (.s 41) (.seq (.region [vP 8 (.mv (.c (.bool true)))])
 (.ret))
 (.skip)))
 (.seq (.seq (.region [vM 42 2,
 vM 43 1,
 vP 44 (vb .sub 42 43),
 vP 45 (vc .lss 44 50)])
 (.cond (.s 45) (.seq (.region [vP 8 (.mv (.c (.bool false)))])
 (.ret))
 (.skip)))
 (.seq (.draw [vD (vM 46 0) 0,
 vD (vM 47 9) 0,
 vD (vM 48 0) 0,
 vD (vM 49 9) 0,
 vD (vP 50 (vc .sub 49 1)) 8,
 vD (vM 51 0) 0,
 vD (vM 52 9) 0,
 vD (vP 53 (vc .sub 52 1)) 64,
 vD (vI 54 8 51 53) 224,
 vD (vP 55 (.ld true 8 (.s 54))) 480,
 vD (vM 56 0) 0,
 vD (vM 57 9) 0,
 vD (vI 58 8 56 57) 3072,
 vD (vP 59 (.ld true 8 (.s 58))) 7168,
 vD (vI 60 8 46 47) 16355,
 ⟨⟨none, none, .inl (.st 8 (.s 60) (.s 55))⟩, (some [.at 0]), [], 32739, false⟩,
 vD (vI 61 8 48 50) 65535,
 ⟨⟨none, none, .inl (.st 8 (.s 61) (.s 59))⟩, (some [.at 0]), [], 131071, false⟩])
 (.seq (.seq (.region [vM 62 9,
 vM 63 1,
 vP 64 (vb .sub 62 63),
 vP 65 (vc .geq 64 2)])
 (.cond (.s 65) (.seq (.region [vM 66 9,
 vP 67 (vc .sub 66 1),
 vM 11 67])
 (.block 4 (.loop k110l1)))
 (.skip)))
 (.seq (.region [vM 101 2,
 vM 102 9,
 vP 103 (vb .sub 101 102),
 vP 104 (vc .geq 103 2)])
 (.cond (.s 104) (.seq (.region [vM 105 9,
 vP 106 (vc .add 105 1),
 vM 12 106])
 (.block 6 (.loop k110l2)))
 (.skip)))))))))
 (.region [vM 17 10,
 vP 18 (vc .add 17 1),
 vM 10 18]))
def k110 : Cd :=
  .seq (.region [vP 8 (.mv (.c (.bool false)))])
 (.seq (.region [vM 13 1,
 vP 14 (vc .add 13 1),
 vM 9 14])
 (.seq (.seq (.region [vP 10 (.mv (vi 0))])
 (.block 0 (.loop k110l3)))
 (.seq (.region [vP 8 (.mv (.c (.bool false)))])
 (.ret))))
def k111l0 : Cd :=
  .seq (.seq (.draw [vD (vM 31 11) 0,
 vD (vM 32 12) 0,
 vD (vP 33 (vb .leq 31 32)) 3,
 vD (vM 34 33) 7,
 vD (vT 34 35 (.mv (.s 4))) 15,
 vD (vT 34 36 (.mv (.s 0))) 15,
 vD (vT 34 37 (.mv (.s 1))) 15,
 vD (vT 34 38 (.ias 8 (.s 36) (.s 37))) 111,
 vD (vT 34 39 (.ld true 8 (.s 38))) 239,
 vD (vT 34 40 (.mv (.s 0))) 15,
 vD (vT 34 41 (.mv (.s 11))) 15,
 vD (vT 34 42 (.ias 8 (.s 40) (.s 41))) 1551,
 vD (vT 34 43 (.ld true 8 (.s 42))) 3599,
 ⟨⟨some (34, true), some 44, .inr (.val true (.s 35) [(.s 39), (.s 43)])⟩, some [], [], 8191, false⟩,
 vD (vT 34 45 (vc .lss 44 0)) 16383,
 vD (vT 34 46 (.not (.s 45))) 32767,
 vD (vP 47 (.pick (.s 34) (.s 46) (.c (.bool false)))) 65535])
 (.cond (.s 47) (.skip)
 (.exit 2)))
 (.block 3 (.region [vM 48 11,
 vP 49 (vc .add 48 1),
 vM 11 49]))
def k111l1 : Cd :=
  .seq (.seq (.draw [vD (vM 50 11) 0,
 vD (vM 51 12) 0,
 vD (vP 52 (vb .leq 50 51)) 3,
 vD (vM 53 52) 7,
 vD (vT 53 54 (.mv (.s 4))) 15,
 vD (vT 53 55 (.mv (.s 0))) 15,
 vD (vT 53 56 (.mv (.s 1))) 15,
 vD (vT 53 57 (.ias 8 (.s 55) (.s 56))) 111,
 vD (vT 53 58 (.ld true 8 (.s 57))) 239,
 vD (vT 53 59 (.mv (.s 0))) 15,
 vD (vT 53 60 (.mv (.s 12))) 15,
 vD (vT 53 61 (.ias 8 (.s 59) (.s 60))) 1551,
 vD (vT 53 62 (.ld true 8 (.s 61))) 3599,
 ⟨⟨some (53, true), some 63, .inr (.val true (.s 54) [(.s 58), (.s 62)])⟩, some [], [], 8191, false⟩,
 vD (vT 53 64 (vc .lss 63 0)) 16383,
 vD (vP 65 (.pick (.s 53) (.s 64) (.c (.bool false)))) 32767])
 (.cond (.s 65) (.skip)
 (.exit 4)))
 (.block 5 (.region [vM 66 12,
 vP 67 (vc .sub 66 1),
 vM 12 67]))
def k111l2 : Cd :=
  .block 1 (.seq (.block 2 (.loop k111l0))
 (.seq (.block 4 (.loop k111l1))
 (.seq (.seq (.region [vM 68 11,
 vM 69 12,
 vP 70 (vb .gtr 68 69)])
 (.cond (.s 70) (.exit 0)
 (.skip)))
 (.seq (.draw [vD (vM 71 0) 0,
 vD (vM 72 11) 0,
 vD (vM 73 0) 0,
 vD (vM 74 12) 0,
 vD (vM 75 0) 0,
 vD (vM 76 12) 0,
 vD (vI 77 8 75 76) 48,
 vD (vP 78 (.ld true 8 (.s 77))) 112,
 vD (vM 79 0) 0,
 vD (vM 80 11) 0,
 vD (vI 81 8 79 80) 768,
 vD (vP 82 (.ld true 8 (.s 81))) 1792,
 vD (vI 83 8 71 72) 4083,
 ⟨⟨none, none, .inl (.st 8 (.s 83) (.s 78))⟩, (some [.at 0]), [], 8179, false⟩,
 vD (vI 84 8 73 74) 16383,
 ⟨⟨none, none, .inl (.st 8 (.s 84) (.s 82))⟩, (some [.at 0]), [], 32767, false⟩])
 (.seq (.region [vM 85 11,
 vP 86 (vc .add 85 1),
 vM 11 86])
 (.region [vM 87 12,
 vP 88 (vc .sub 87 1),
 vM 12 88]))))))
def k111 : Cd :=
  .seq (.region [vP 10 (.mv (vi 0))])
 (.seq (.draw [vD (vM 13 0) 0,
 vD (vM 14 1) 0,
 vD (vM 15 0) 0,
 vD (vM 16 3) 0,
 vD (vM 17 0) 0,
 vD (vM 18 3) 0,
 vD (vI 19 8 17 18) 48,
 vD (vP 20 (.ld true 8 (.s 19))) 112,
 vD (vM 21 0) 0,
 vD (vM 22 1) 0,
 vD (vI 23 8 21 22) 768,
 vD (vP 24 (.ld true 8 (.s 23))) 1792,
 vD (vI 25 8 13 14) 4083,
 ⟨⟨none, none, .inl (.st 8 (.s 25) (.s 20))⟩, (some [.at 0]), [], 8179, false⟩,
 vD (vI 26 8 15 16) 16383,
 ⟨⟨none, none, .inl (.st 8 (.s 26) (.s 24))⟩, (some [.at 0]), [], 32767, false⟩])
 (.seq (.region [vM 27 1,
 vP 28 (vc .add 27 1),
 vM 29 2,
 vP 30 (vc .sub 29 1),
 vM 11 28,
 vM 12 30])
 (.seq (.block 0 (.loop k111l2))
 (.seq (.region [vM 89 11,
 vM 10 89])
 (.ret)))))
def k112l0 : Cd :=
  .seq (.seq (.draw [vD (vM 32 12) 0,
 vD (vM 33 13) 0,
 vD (vP 34 (vb .leq 32 33)) 3,
 vD (vM 35 34) 7,
 vD (vT 35 36 (.mv (.s 4))) 15,
 vD (vT 35 37 (.mv (.s 0))) 15,
 vD (vT 35 38 (.mv (.s 12))) 15,
 vD (vT 35 39 (.ias 8 (.s 37) (.s 38))) 111,
 vD (vT 35 40 (.ld true 8 (.s 39))) 239,
 vD (vT 35 41 (.mv (.s 0))) 15,
 vD (vT 35 42 (.mv (.s 1))) 15,
 vD (vT 35 43 (.ias 8 (.s 41) (.s 42))) 1551,
 vD (vT 35 44 (.ld true 8 (.s 43))) 3599,
 ⟨⟨some (35, true), some 45, .inr (.val true (.s 36) [(.s 40), (.s 44)])⟩, some [], [], 8191, false⟩,
 vD (vT 35 46 (vc .lss 45 0)) 16383,
 vD (vP 47 (.pick (.s 35) (.s 46) (.c (.bool false)))) 32767])
 (.cond (.s 47) (.skip)
 (.exit 0)))
 (.block 1 (.region [vM 48 12,
 vP 49 (vc .add 48 1),
 vM 12 49]))
def k112l1 : Cd :=
  .seq (.seq (.draw [vD (vM 50 12) 0,
 vD (vM 51 13) 0,
 vD (vP 52 (vb .leq 50 51)) 3,
 vD (vM 53 52) 7,
 vD (vT 53 54 (.mv (.s 4))) 15,
 vD (vT 53 55 (.mv (.s 0))) 15,
 vD (vT 53 56 (.mv (.s 13))) 15,
 vD (vT 53 57 (.ias 8 (.s 55) (.s 56))) 111,
 vD (vT 53 58 (.ld true 8 (.s 57))) 239,
 vD (vT 53 59 (.mv (.s 0))) 15,
 vD (vT 53 60 (.mv (.s 1))) 15,
 vD (vT 53 61 (.ias 8 (.s 59) (.s 60))) 1551,
 vD (vT 53 62 (.ld true 8 (.s 61))) 3599,
 ⟨⟨some (53, true), some 63, .inr (.val true (.s 54) [(.s 58), (.s 62)])⟩, some [], [], 8191, false⟩,
 vD (vT 53 64 (vc .lss 63 0)) 16383,
 vD (vT 53 65 (.not (.s 64))) 32767,
 vD (vP 66 (.pick (.s 53) (.s 65) (.c (.bool false)))) 65535])
 (.cond (.s 66) (.skip)
 (.exit 2)))
 (.block 3 (.region [vM 67 13,
 vP 68 (vc .sub 67 1),
 vM 13 68]))
def k112l2 : Cd :=
  .seq (.seq (.draw [vD (vM 105 12) 0,
 vD (vM 106 13) 0,
 vD (vP 107 (vb .leq 105 106)) 3,
 vD (vM 108 107) 7,
 vD (vT 108 109 (.mv (.s 4))) 15,
 vD (vT 108 110 (.mv (.s 0))) 15,
 vD (vT 108 111 (.mv (.s 12))) 15,
 vD (vT 108 112 (.ias 8 (.s 110) (.s 111))) 111,
 vD (vT 108 113 (.ld true 8 (.s 112))) 239,
 vD (vT 108 114 (.mv (.s 0))) 15,
 vD (vT 108 115 (.mv (.s 1))) 15,
 vD (vT 108 116 (.ias 8 (.s 114) (.s 115))) 1551,
 vD (vT 108 117 (.ld true 8 (.s 116))) 3599,
 ⟨⟨some (108, true), some 118, .inr (.val true (.s 109) [(.s 113), (.s 117)])⟩, some [], [], 8191, false⟩,
 vD (vT 108 119 (vc .lss 118 0)) 16383,
 vD (vP 120 (.pick (.s 108) (.s 119) (.c (.bool false)))) 32767])
 (.cond (.s 120) (.skip)
 (.exit 6)))
 (.block 7 (.region [vM 121 12,
 vP 122 (vc .add 121 1),
 vM 12 122]))
def k112l3 : Cd :=
  .seq (.seq (.draw [vD (vM 123 12) 0,
 vD (vM 124 13) 0,
 vD (vP 125 (vb .leq 123 124)) 3,
 vD (vM 126 125) 7,
 vD (vT 126 127 (.mv (.s 4))) 15,
 vD (vT 126 128 (.mv (.s 0))) 15,
 vD (vT 126 129 (.mv (.s 13))) 15,
 vD (vT 126 130 (.ias 8 (.s 128) (.s 129))) 111,
 vD (vT 126 131 (.ld true 8 (.s 130))) 239,
 vD (vT 126 132 (.mv (.s 0))) 15,
 vD (vT 126 133 (.mv (.s 1))) 15,
 vD (vT 126 134 (.ias 8 (.s 132) (.s 133))) 1551,
 vD (vT 126 135 (.ld true 8 (.s 134))) 3599,
 ⟨⟨some (126, true), some 136, .inr (.val true (.s 127) [(.s 131), (.s 135)])⟩, some [], [], 8191, false⟩,
 vD (vT 126 137 (vc .lss 136 0)) 16383,
 vD (vT 126 138 (.not (.s 137))) 32767,
 vD (vP 139 (.pick (.s 126) (.s 138) (.c (.bool false)))) 65535])
 (.cond (.s 139) (.skip)
 (.exit 8)))
 (.block 9 (.region [vM 140 13,
 vP 141 (vc .sub 140 1),
 vM 13 141]))
def k112l4 : Cd :=
  .block 5 (.seq (.block 6 (.loop k112l2))
 (.seq (.block 8 (.loop k112l3))
 (.seq (.seq (.region [vM 142 12,
 vM 143 13,
 vP 144 (vb .gtr 142 143)])
 (.cond (.s 144) (.exit 4)
 (.skip)))
 (.seq (.draw [vD (vM 145 0) 0,
 vD (vM 146 12) 0,
 vD (vM 147 0) 0,
 vD (vM 148 13) 0,
 vD (vM 149 0) 0,
 vD (vM 150 13) 0,
 vD (vI 151 8 149 150) 48,
 vD (vP 152 (.ld true 8 (.s 151))) 112,
 vD (vM 153 0) 0,
 vD (vM 154 12) 0,
 vD (vI 155 8 153 154) 768,
 vD (vP 156 (.ld true 8 (.s 155))) 1792,
 vD (vI 157 8 145 146) 4083,
 ⟨⟨none, none, .inl (.st 8 (.s 157) (.s 152))⟩, (some [.at 0]), [], 8179, false⟩,
 vD (vI 158 8 147 148) 16383,
 ⟨⟨none, none, .inl (.st 8 (.s 158) (.s 156))⟩, (some [.at 0]), [], 32767, false⟩])
 (.seq (.region [vM 159 12,
 vP 160 (vc .add 159 1),
 vM 12 160])
 (.region [vM 161 13,
 vP 162 (vc .sub 161 1),
 vM 13 162]))))))
def k112 : Cd :=
  .seq (.region [vP 10 (.mv (vi 0)),
 vP 11 (.mv (.c (.bool false)))])
 (.seq (.draw [vD (vM 14 0) 0,
 vD (vM 15 1) 0,
 vD (vM 16 0) 0,
 vD (vM 17 3) 0,
 vD (vM 18 0) 0,
 vD (vM 19 3) 0,
 vD (vI 20 8 18 19) 48,
 vD (vP 21 (.ld true 8 (.s 20))) 112,
 vD (vM 22 0) 0,
 vD (vM 23 1) 0,
 vD (vI 24 8 22 23) 768,
 vD (vP 25 (.ld true 8 (.s 24))) 1792,
 vD (vI 26 8 14 15) 4083,
 ⟨⟨none, none, .inl (.st 8 (.s 26) (.s 21))⟩, (some [.at 0]), [], 8179, false⟩,
 vD (vI 27 8 16 17) 16383,
 ⟨⟨none, none, .inl (.st 8 (.s 27) (.s 25))⟩, (some [.at 0]), [], 32767, false⟩])
 (.seq (.region [vM 28 1,
 vP 29 (vc .add 28 1),
 vM 30 2,
 vP 31 (vc .sub 30 1),
 vM 12 29,
 vM 13 31])
 (.seq (.block 0 (.loop k112l0))
 (.seq (.block 2 (.loop k112l1))
 (.seq (.seq (.region [vM 69 12,
 vM 70 13,
 vP 71 (vb .gtr 69 70)])
 (.cond (.s 71) (.seq (.draw [vD (vM 72 0) 0,
 vD (vM 73 13) 0,
 vD (vM 74 0) 0,
 vD (vM 75 1) 0,
 vD (vM 76 0) 0,
 vD (vM 77 1) 0,
 vD (vI 78 8 76 77) 48,
 vD (vP 79 (.ld true 8 (.s 78))) 112,
 vD (vM 80 0) 0,
 vD (vM 81 13) 0,
 vD (vI 82 8 80 81) 768,
 vD (vP 83 (.ld true 8 (.s 82))) 1792,
 vD (vI 84 8 72 73) 4083,
 ⟨⟨none, none, .inl (.st 8 (.s 84) (.s 79))⟩, (some [.at 0]), [], 8179, false⟩,
 vD (vI 85 8 74 75) 16383,
 ⟨⟨none, none, .inl (.st 8 (.s 85) (.s 83))⟩, (some [.at 0]), [], 32767, false⟩])
 (.seq (.region [vM 86 13,
 vM 10 86,
 vP 11 (.mv (.c (.bool true)))])
 (.ret)))
 (.skip)))
 (.seq (.draw [vD (vM 87 0) 0,
 vD (vM 88 12) 0,
 vD (vM 89 0) 0,
 vD (vM 90 13) 0,
 vD (vM 91 0) 0,
 vD (vM 92 13) 0,
 vD (vI 93 8 91 92) 48,
 vD (vP 94 (.ld true 8 (.s 93))) 112,
 vD (vM 95 0) 0,
 vD (vM 96 12) 0,
 vD (vI 97 8 95 96) 768,
 vD (vP 98 (.ld true 8 (.s 97))) 1792,
 vD (vI 99 8 87 88) 4083,
 ⟨⟨none, none, .inl (.st 8 (.s 99) (.s 94))⟩, (some [.at 0]), [], 8179, false⟩,
 vD (vI 100 8 89 90) 16383,
 ⟨⟨none, none, .inl (.st 8 (.s 100) (.s 98))⟩, (some [.at 0]), [], 32767, false⟩])
 (.seq (.region [vM 101 12,
 vP 102 (vc .add 101 1),
 vM 12 102])
 (.seq (.region [vM 103 13,
 vP 104 (vc .sub 103 1),
 vM 13 104])
 (.seq (.block 4 (.loop k112l4))
 (.seq (.draw [vD (vM 163 0) 0,
 vD (vM 164 13) 0,
 vD (vM 165 0) 0,
 vD (vM 166 1) 0,
 vD (vM 167 0) 0,
 vD (vM 168 1) 0,
 vD (vI 169 8 167 168) 48,
 vD (vP 170 (.ld true 8 (.s 169))) 112,
 vD (vM 171 0) 0,
 vD (vM 172 13) 0,
 vD (vI 173 8 171 172) 768,
 vD (vP 174 (.ld true 8 (.s 173))) 1792,
 vD (vI 175 8 163 164) 4083,
 ⟨⟨none, none, .inl (.st 8 (.s 175) (.s 170))⟩, (some [.at 0]), [], 8179, false⟩,
 vD (vI 176 8 165 166) 16383,
 ⟨⟨none, none, .inl (.st 8 (.s 176) (.s 174))⟩, (some [.at 0]), [], 32767, false⟩])
 (.seq (.region [vM 177 13,
 vM 10 177,
 vP 11 (.mv (.c (.bool false)))])
 (.ret))))))))))))
def k113 : Cd :=
  .seq (.region [vP 2 (.mv (vi 0))])
 (.seq (.seq (.region [vM 3 0,
 vP 4 (.bin .geq (.s 3) (.c (.int .u32 65536)))])
 (.cond (.s 4) (.seq (.region [vM 5 0,
 vP 6 (.bin .shr (.s 5) (.c (.int .u64 16))),
 vM 0 6])
 (.region [vP 2 (.mv (vi 16))]))
 (.skip)))
 (.seq (.seq (.region [vM 7 0,
 vP 8 (.bin .geq (.s 7) (.c (.int .u32 256)))])
 (.cond (.s 8) (.seq (.region [vM 9 0,
 vP 10 (.bin .shr (.s 9) (.c (.int .u64 8))),
 vM 0 10])
 (.region [vM 11 2,
 vP 12 (vc .add 11 8),
 vM 2 12]))
 (.skip)))
 (.seq (.region [vM 13 2,
 vM 14 0,
 vP 15 (.cvi .u8 (.s 14)),
 ⟨none, some 16, .inl (.ixs (.c (.string ⟨#[0, 1, 2, 2, 3, 3, 3, 3, 4, 4, 4, 4, 4, 4, 4, 4, 5, 5, 5, 5, 5, 5, 5, 5, 5, 5, 5, 5, 5, 5, 5, 5, 6, 6, 6, 6, 6, 6, 6, 6, 6, 6, 6, 6, 6, 6, 6, 6, 6, 6, 6, 6, 6, 6, 6, 6, 6, 6, 6, 6, 6, 6, 6, 6, 7, 7, 7, 7, 7, 7, 7, 7, 7, 7, 7, 7, 7, 7, 7, 7, 7, 7, 7, 7, 7, 7, 7, 7, 7, 7, 7, 7, 7, 7, 7, 7, 7, 7, 7, 7, 7, 7, 7, 7, 7, 7, 7, 7, 7, 7, 7, 7, 7, 7, 7, 7, 7, 7, 7, 7, 7, 7, 7, 7, 7, 7, 7, 7, 8, 8, 8, 8, 8, 8, 8, 8, 8, 8, 8, 8, 8, 8, 8, 8, 8, 8, 8, 8, 8, 8, 8, 8, 8, 8, 8, 8, 8, 8, 8, 8, 8, 8, 8, 8, 8, 8, 8, 8, 8, 8, 8, 8, 8, 8, 8, 8, 8, 8, 8, 8, 8, 8, 8, 8, 8, 8, 8, 8, 8, 8, 8, 8, 8, 8, 8, 8, 8, 8, 8, 8, 8, 8, 8, 8, 8, 8, 8, 8, 8, 8, 8, 8, 8, 8, 8, 8, 8, 8, 8, 8, 8, 8, 8, 8, 8, 8, 8, 8, 8, 8, 8, 8, 8, 8, 8, 8, 8, 8, 8, 8, 8, 8, 8, 8, 8, 8, 8, 8, 8, 8, 8, 8, 8, 8, 8, 8]⟩)) (.s 15))⟩,
 vP 17 (.cvi .i64 (.s 16)),
 vP 18 (vb .add 13 17),
 vM 2 18])
 (.ret))))
def k114 : Cd :=
  .seq (.region [vP 2 (.mv (vi 0))])
 (.seq (.seq (.region [vM 3 0,
 vP 4 (.bin .geq (.s 3) (.c (.int .u64 4294967296)))])
 (.cond (.s 4) (.seq (.region [vM 5 0,
 vP 6 (.bin .shr (.s 5) (.c (.int .u64 32))),
 vM 0 6])
 (.region [vP 2 (.mv (vi 32))]))
 (.skip)))
 (.seq (.seq (.region [vM 7 0,
 vP 8 (.bin .geq (.s 7) (.c (.int .u64 65536)))])
 (.cond (.s 8) (.seq (.region [vM 9 0,
 vP 10 (.bin .shr (.s 9) (.c (.int .u64 16))),
 vM 0 10])
 (.region [vM 11 2,
 vP 12 (vc .add 11 16),
 vM 2 12]))
 (.skip)))
 (.seq (.seq (.region [vM 13 0,
 vP 14 (.bin .geq (.s 13) (.c (.int .u64 256)))])
 (.cond (.s 14) (.seq (.region [vM 15 0,
 vP 16 (.bin .shr (.s 15) (.c (.int .u64 8))),
 vM 0 16])
 (.region [vM 17 2,
 vP 18 (vc .add 17 8),
 vM 2 18]))
 (.skip)))
 (.seq (.region [vM 19 2,
 vM 20 0,
 vP 21 (.cvi .u8 (.s 20)),
 ⟨none, some 22, .inl (.ixs (.c (.string ⟨#[0, 1, 2, 2, 3, 3, 3, 3, 4, 4, 4, 4, 4, 4, 4, 4, 5, 5, 5, 5, 5, 5, 5, 5, 5, 5, 5, 5, 5, 5, 5, 5, 6, 6, 6, 6, 6, 6, 6, 6, 6, 6, 6, 6, 6, 6, 6, 6, 6, 6, 6, 6, 6, 6, 6, 6, 6, 6, 6, 6, 6, 6, 6, 6, 7, 7, 7, 7, 7, 7, 7, 7, 7, 7, 7, 7, 7, 7, 7, 7, 7, 7, 7, 7, 7, 7, 7, 7, 7, 7, 7, 7, 7, 7, 7, 7, 7, 7, 7, 7, 7, 7, 7, 7, 7, 7, 7, 7, 7, 7, 7, 7, 7, 7, 7, 7, 7, 7, 7, 7, 7, 7, 7, 7, 7, 7, 7, 7, 8, 8, 8, 8, 8, 8, 8, 8, 8, 8, 8, 8, 8, 8, 8, 8, 8, 8, 8, 8, 8, 8, 8, 8, 8, 8, 8, 8, 8, 8, 8, 8, 8, 8, 8, 8, 8, 8, 8, 8, 8, 8, 8, 8, 8, 8, 8, 8, 8, 8, 8, 8, 8, 8, 8, 8, 8, 8, 8, 8, 8, 8, 8, 8, 8, 8, 8, 8, 8, 8, 8, 8, 8, 8, 8, 8, 8, 8, 8, 8, 8, 8, 8, 8, 8, 8, 8, 8, 8, 8, 8, 8, 8, 8, 8, 8, 8, 8, 8, 8, 8, 8, 8, 8, 8, 8, 8, 8, 8, 8, 8, 8, 8, 8, 8, 8, 8, 8, 8, 8, 8, 8, 8, 8, 8, 8, 8, 8]⟩)) (.s 21))⟩,
 vP 23 (.cvi .i64 (.s 22)),
 vP 24 (vb .add 19 23),
 vM 2 24])
 (.ret)))))
def k115l0 : Cd :=
  .seq (.region [vP 9 (vb .lss 8 7)])
 (.seq (.cond (.s 9) (.skip)
 (.exit 0))
 (.seq (.block 1 (.seq (.region [vM 10 8,
 vM 5 10])
 (.seq (.region [vM 11 1,
 vM 12 0,
 vM 13 5,
 vI 14 1 12 13,
 vL 15 1 14,
 vP 16 (vb .eql 11 15)])
 (.cond (.s 16) (.seq (.region [vM 17 5,
 vM 4 17])
 (.ret))
 (.skip)))))
 (.region [vP 18 (vc .add 8 1),
 vM 8 18])))
def k115 : Cd :=
  .seq (.region [vP 4 (.mv (vi 0))])
 (.seq (.seq (.region [vM 6 0,
 vP 7 (.len (.s 6)),
 vP 8 (.mv (vi 0))])
 (.block 0 (.loop k115l0)))
 (.seq (.region [vP 4 (.mv (.c (.int .i64 (-1))))])
 (.ret)))
def k116 : Cd :=
  .seq (.region [vP 4 (.mv (.c (.bool false)))])
 (.seq (.region [vM 5 0,
 vP 6 (.len (.s 5)),
 vM 7 1,
 vP 8 (.len (.s 7)),
 vP 9 (vb .geq 6 8),
 vM 10 9,
 vT 10 11 (.mv (.s 0)),
 vT 10 12 (.mv (.s 1)),
 vT 10 13 (.len (.s 12)),
 vT 10 14 (.slc 1 (.s 11) none (some (.s 13)) none),
 vT 10 15 (.mv (.s 1)),
 ⟨some (10, true), some 16, .inr (.fn 122 [(.s 14), (.s 15)])⟩,
 vP 17 (.pick (.s 10) (.s 16) (.c (.bool false))),
 vM 4 17])
 (.ret))
def k117l0 : Cd :=
  .block 1 (.seq (.region [vM 13 10,
 vP 14 (.bin .mul (vi 2) (.s 13)),
 vP 15 (vc .add 14 1),
 vM 11 15])
 (.seq (.seq (.region [vM 16 11,
 vM 17 2,
 vP 18 (vb .geq 16 17)])
 (.cond (.s 18) (.exit 0)
 (.skip)))
 (.seq (.seq (.draw [vD (vM 19 11) 0,
 vD (vP 20 (vc .add 19 1)) 1,
 vD (vM 21 2) 0,
 vD (vP 22 (vb .lss 20 21)) 7,
 vD (vM 23 22) 15,
 vD (vT 23 24 (.mv (.s 4))) 31,
 vD (vT 23 25 (.mv (.s 0))) 31,
 vD (vT 23 26 (.mv (.s 3))) 31,
 vD (vT 23 27 (.mv (.s 11))) 31,
 vD (vT 23 28 (vb .add 26 27)) 415,
 vD (vT 23 29 (.ias 8 (.s 25) (.s 28))) 991,
 vD (vT 23 30 (.ld true 8 (.s 29))) 2015,
 vD (vT 23 31 (.mv (.s 0))) 31,
 vD (vT 23 32 (.mv (.s 3))) 31,
 vD (vT 23 33 (.mv (.s 11))) 31,
 vD (vT 23 34 (vb .add 32 33)) 24607,
 vD (vT 23 35 (vc .add 34 1)) 57375,
 vD (vT 23 36 (.ias 8 (.s 31) (.s 35))) 127007,
 vD (vT 23 37 (.ld true 8 (.s 36))) 258079,
 ⟨⟨some (23, true), some 38, .inr (.val true (.s 24) [(.s 30), (.s 37)])⟩, some [], [], 524287, false⟩,
 vD (vT 23 39 (vc .lss 38 0)) 1048575,
 vD (vP 40 (.pick (.s 23) (.s 39) (.c (.bool false)))) 2097151])
 (.cond (.s 40) (.region [vM 41 11,
 vP 42 (vc .add 41 1),
 vM 11 42])
 (.skip)))
 (.seq (.seq (.draw [vD (vM 43 4) 0,
 vD (vM 44 0) 0,
 vD (vM 45 3) 0,
 vD (vM 46 10) 0,
 vD (vP 47 (vb .add 45 46)) 12,
 vD (vI 48 8 44 47) 30,
 vD (vP 49 (.ld true 8 (.s 48))) 62,
 vD (vM 50 0) 0,
 vD (vM 51 3) 0,
 vD (vM 52 11) 0,
 vD (vP 53 (vb .add 51 52)) 768,
 vD (vI 54 8 50 53) 1920,
 vD (vP 55 (.ld true 8 (.s 54))) 3968,
 ⟨⟨none, some 56, .inr (.val false (.s 43) [(.s 49), (.s 55)])⟩, some [], [], 8191, false⟩,
 vD (vP 57 (vc .lss 56 0)) 16383,
 vD (vP 58 (.not (.s 57))) 32767])
 (.cond (.s 58) (.ret)
 (.skip)))
 (.seq (.draw [vD (vM 59 0) 0,
 vD (vM 60 3) 0,
 vD (vM 61 10) 0,
 vD (vP 62 (vb .add 60 61)) 6,
 vD (vM 63 0) 0,
 vD (vM 64 3) 0,
 vD (vM 65 11) 0,
 vD (vP 66 (vb .add 64 65)) 96,
 vD (vM 67 0) 0,
 vD (vM 68 3) 0,
 vD (vM 69 11) 0,
 vD (vP 70 (vb .add 68 69)) 1536,
 vD (vI 71 8 67 70) 3840,
 vD (vP 72 (.ld true 8 (.s 71))) 7936,
 vD (vM 73 0) 0,
 vD (vM 74 3) 0,
 vD (vM 75 10) 0,
 vD (vP 76 (vb .add 74 75)) 98304,
 vD (vI 77 8 73 76) 245760,
 vD (vP 78 (.ld true 8 (.s 77))) 507904,
 vD (vI 79 8 59 62) 1048335,
 ⟨⟨none, none, .inl (.st 8 (.s 79) (.s 72))⟩, (some [.at 0]), [], 2096911, false⟩,
 vD (vI 80 8 63 66) 4194303,
 ⟨⟨none, none, .inl (.st 8 (.s 80) (.s 78))⟩, (some [.at 0]), [], 8388607, false⟩])
 (.region [vM 81 11,
 vM 10 81]))))))
def k117 : Cd :=
  .seq (.region [vM 12 1,
 vM 10 12])
 (.block 0 (.loop k117l0))
def k118 : Cd :=
  .seq (.region [vP 2 (.mv (.c (.int .u64 0)))])
 (.seq (.region [vM 3 0,
 vP 4 (.cvi .u64 (.s 3)),
 vN 5 100 [(.s 4)],
 vP 6 (.bin .shl (.c (.int .u64 1)) (.s 5)),
 vM 2 6])
 (.ret))
def k119 : Cd :=
  .seq (.region [vP 2 (.mv (.c (.int .u64 0)))])
 (.seq (.draw [vD (vM 3 0) 0,
 vD (vP 4 (.nc (.s 3))) 1,
 vD (vL 5 1 4) 3,
 vD (vM 6 0) 0,
 vD (vP 7 (.nc (.s 6))) 8,
 vD (vL 8 1 7) 24,
 vD (vP 9 (.bin .shl (.s 8) (.c (.int .u64 13)))) 56,
 vD (vP 10 (vb .xor 5 9)) 127,
 vD (vP 11 (.nc (.s 3))) 255,
 ⟨⟨none, none, .inl (.st 1 (.s 11) (.s 10))⟩, (some [.at 0]), [], 511, false⟩])
 (.seq (.draw [vD (vM 12 0) 0,
 vD (vP 13 (.nc (.s 12))) 1,
 vD (vL 14 1 13) 3,
 vD (vM 15 0) 0,
 vD (vP 16 (.nc (.s 15))) 8,
 vD (vL 17 1 16) 24,
 vD (vP 18 (.bin .shr (.s 17) (.c (.int .u64 7)))) 56,
 vD (vP 19 (vb .xor 14 18)) 127,
 vD (vP 20 (.nc (.s 12))) 255,
 ⟨⟨none, none, .inl (.st 1 (.s 20) (.s 19))⟩, (some [.at 0]), [], 511, false⟩])
 (.seq (.draw [vD (vM 21 0) 0,
 vD (vP 22 (.nc (.s 21))) 1,
 vD (vL 23 1 22) 3,
 vD (vM 24 0) 0,
 vD (vP 25 (.nc (.s 24))) 8,
 vD (vL 26 1 25) 24,
 vD (vP 27 (.bin .shl (.s 26) (.c (.int .u64 17)))) 56,
 vD (vP 28 (vb .xor 23 27)) 127,
 vD (vP 29 (.nc (.s 21))) 255,
 ⟨⟨none, none, .inl (.st 1 (.s 29) (.s 28))⟩, (some [.at 0]), [], 511, false⟩])
 (.seq (.region [vM 30 0,
 vP 31 (.nc (.s 30)),
 vL 32 1 31,
 vM 2 32])
 (.ret)))))
def k120 : Cd :=
  .seq (.region [vP 8 (.mv (vi 0))])
 (.seq (.region [vM 9 0,
 vM 10 1,
 vP 11 (vc .sub 10 1),
 vM 12 1,
 vM 13 1,
 vP 14 (vc .add 13 1),
 vM 15 2,
 vM 16 3,
 vN 17 121 [(.s 9), (.s 11), (.s 12), (.s 14), (.s 15), (.s 16)],
 vM 8 17])
 (.ret))
def k121 : Cd :=
  .seq (.region [vP 12 (.mv (vi 0))])
 (.seq (.region [vM 14 0,
 vM 15 1,
 vM 16 2,
 vM 17 4,
 vM 18 5,
 vN 19 123 [(.s 14), (.s 15), (.s 16), (.s 17), (.s 18)],
 vM 13 19,
 vP 20 (.ex (.s 13) 0),
 vP 21 (.ex (.s 13) 1),
 vM 1 20,
 vM 2 21])
 (.seq (.region [vM 23 0,
 vM 24 2,
 vM 25 3,
 vM 26 4,
 vM 27 5,
 vN 28 123 [(.s 23), (.s 24), (.s 25), (.s 26), (.s 27)],
 vM 22 28,
 vP 29 (.ex (.s 22) 0),
 vP 30 (.ex (.s 22) 1),
 vM 2 29,
 vM 3 30])
 (.seq (.region [vM 32 0,
 vM 33 1,
 vM 34 2,
 vM 35 4,
 vM 36 5,
 vN 37 123 [(.s 32), (.s 33), (.s 34), (.s 35), (.s 36)],
 vM 31 37,
 vP 38 (.ex (.s 31) 0),
 vP 39 (.ex (.s 31) 1),
 vM 1 38,
 vM 2 39])
 (.seq (.region [vM 40 2,
 vM 12 40])
 (.ret)))))
def k122 : Cd :=
  .seq (.region [vP 4 (.mv (.c (.bool false)))])
 (.seq (.region [vM 5 0,
 vP 6 (.b2s (.s 5)),
 vM 7 1,
 vP 8 (.b2s (.s 7)),
 vP 9 (vb .eql 6 8),
 vM 4 9])
 (.ret))
def k123 : Cd :=
  .seq (.region [vP 10 (.mv (vi 0)),
 vP 11 (.mv (vi 0))])
 (.seq (.seq (.draw [vD (vM 12 4) 0,
 vD (vM 13 0) 0,
 vD (vM 14 2) 0,
 vD (vI 15 8 13 14) 6,
 vD (vP 16 (.ld true 8 (.s 15))) 14,
 vD (vM 17 0) 0,
 vD (vM 18 1) 0,
 vD (vI 19 8 17 18) 96,
 vD (vP 20 (.ld true 8 (.s 19))) 224,
 ⟨⟨none, some 21, .inr (.val false (.s 12) [(.s 16), (.s 20)])⟩, some [], [], 511, false⟩,
 vD (vP 22 (vc .lss 21 0)) 1023])
 (.cond (.s 22) (.seq (.region [vM 23 3,
 vP 24 (.nc (.s 23)),
 vL 25 1 24,
 vP 26 (vc .add 25 1),
 vP 27 (.nc (.s 23)),
 ⟨none, none, .inl (.st 1 (.s 27) (.s 26))⟩])
 (.seq (.region [vM 28 2,
 vM 29 1,
 vM 10 28,
 vM 11 29])
 (.ret)))
 (.skip)))
 (.seq (.region [vM 30 1,
 vM 31 2,
 vM 10 30,
 vM 11 31])
 (.ret)))
end Go.Proofs.YtkbamkdgiglljaaGreat
