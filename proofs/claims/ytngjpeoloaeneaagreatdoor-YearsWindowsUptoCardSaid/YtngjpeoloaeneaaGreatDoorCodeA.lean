/- The small code of the functions of this program, as its own reader reads them: part A. -/
import Derived.Test.YtngjpeoloaeneaaGreatDoorEmR
namespace Go.Proofs.YtngjpeoloaeneaaGreatDoor
open Go Go.Em
set_option maxRecDepth 100000
@[simp] abbrev vM (d x : Nat) : G := ⟨none, some d, .inl (.mv (.s x))⟩
@[simp] abbrev vL (d n x : Nat) : G := ⟨none, some d, .inl (.ld false n (.s x))⟩
@[simp] abbrev vF (d x o : Nat) : G := ⟨none, some d, .inl (.fa (.s x) o)⟩
@[simp] abbrev vI (d n x i : Nat) : G := ⟨none, some d, .inl (.ias n (.s x) (.s i))⟩
@[simp] abbrev vi (n : Int) : X := .c (.int .i64 n)
@[simp] abbrev vb (o : BinOp) (a b : Nat) : M := .bin o (.s a) (.s b)
@[simp] abbrev vc (o : BinOp) (a : Nat) (n : Int) : M := .bin o (.s a) (.c (.int .i64 n))
@[simp] abbrev vP (d : Nat) (m : M) : G := ⟨none, some d, .inl m⟩
@[simp] abbrev vT (g d : Nat) (m : M) : G := ⟨some (g, true), some d, .inl m⟩
@[simp] abbrev vU (g d : Nat) (m : M) : G := ⟨some (g, false), some d, .inl m⟩
@[simp] abbrev vN (d : Nat) (f : FuncId) (l : List X) : G := ⟨none, some d, .inr (.fn f l)⟩
@[simp] abbrev vD (g : G) (n : Nat) : DG := ⟨g, some [], [], n, false⟩
def k5 : Cd :=
  .seq (.region [vP 3 (.box 36 2 (.s 0)),
 vP 4 (.box 36 2 (.s 1)),
 vP 5 (.box 37 4 (.s 2)),
 vP 6 (.mv (.c (.bool false)))])
 (.seq (.region [vF 18 3 0,
 vL 19 1 18,
 vF 20 3 1,
 vL 21 1 20,
 vN 22 26 [(.s 19), (.s 21)],
 vM 17 22,
 vP 23 (.ex (.s 17) 0),
 vP 24 (.ex (.s 17) 1),
 vP 7 (.alloc 36 [(.int .i64 0), (.int .i64 0)]),
 ⟨none, none, .inl (.st 2 (.s 7) (.s 23))⟩,
 vM 8 24])
 (.seq (.region [vF 26 3 0,
 vL 27 1 26,
 vF 28 3 1,
 vL 29 1 28,
 vN 30 27 [(.s 27), (.s 29)],
 vM 25 30,
 vP 31 (.ex (.s 25) 0),
 vP 32 (.ex (.s 25) 1),
 vP 9 (.alloc 36 [(.int .i64 0), (.int .i64 0)]),
 ⟨none, none, .inl (.st 2 (.s 9) (.s 31))⟩,
 vM 10 32])
 (.seq (.region [vP 34 (.iaa 4 1 (.s 5) (vi 0)),
 vL 35 1 34,
 vP 36 (.iaa 4 1 (.s 5) (vi 1)),
 vL 37 1 36,
 vP 38 (.iaa 4 1 (.s 5) (vi 2)),
 vL 39 1 38,
 vP 40 (.iaa 4 1 (.s 5) (vi 3)),
 vL 41 1 40,
 vN 42 28 [(.s 35), (.s 37), (.s 39), (.s 41)],
 vM 33 42,
 vP 43 (.ex (.s 33) 0),
 vP 44 (.ex (.s 33) 1),
 vP 45 (.ex (.s 33) 2),
 vP 11 (.alloc 36 [(.int .i64 0), (.int .i64 0)]),
 vP 12 (.alloc 36 [(.int .i64 0), (.int .i64 0)]),
 ⟨none, none, .inl (.st 2 (.s 11) (.s 43))⟩,
 ⟨none, none, .inl (.st 2 (.s 12) (.s 44))⟩,
 vM 13 45])
 (.seq (.region [vP 47 (.iaa 4 1 (.s 5) (vi 0)),
 vL 48 1 47,
 vP 49 (.iaa 4 1 (.s 5) (vi 1)),
 vL 50 1 49,
 vP 51 (.iaa 4 1 (.s 5) (vi 2)),
 vL 52 1 51,
 vP 53 (.iaa 4 1 (.s 5) (vi 3)),
 vL 54 1 53,
 vN 55 29 [(.s 48), (.s 50), (.s 52), (.s 54)],
 vM 46 55,
 vP 56 (.ex (.s 46) 0),
 vP 57 (.ex (.s 46) 1),
 vP 58 (.ex (.s 46) 2),
 vP 14 (.alloc 36 [(.int .i64 0), (.int .i64 0)]),
 vP 15 (.alloc 36 [(.int .i64 0), (.int .i64 0)]),
 ⟨none, none, .inl (.st 2 (.s 14) (.s 56))⟩,
 ⟨none, none, .inl (.st 2 (.s 15) (.s 57))⟩,
 vM 16 58])
 (.seq (.draw [vD (vP 59 (.ld true 2 (.s 7))) 0,
 vD (vP 60 (.ld true 2 (.s 9))) 0,
 vD (vP 61 (.eq false (.cells [.int, .int]) (.s 59) (.s 60))) 3,
 vD (vM 62 61) 7,
 vD (vT 62 63 (.mv (.s 8))) 15,
 vD (vT 62 64 (.mv (.s 10))) 15,
 vD (vT 62 65 (vb .eql 63 64)) 63,
 vD (vP 66 (.pick (.s 62) (.s 65) (.c (.bool false)))) 127,
 vD (vM 67 66) 255,
 vD (vT 67 68 (.ld true 2 (.s 11))) 511,
 vD (vT 67 69 (.ld true 2 (.s 14))) 511,
 vD (vT 67 70 (.eq false (.cells [.int, .int]) (.s 68) (.s 69))) 2047,
 vD (vP 71 (.pick (.s 67) (.s 70) (.c (.bool false)))) 4095,
 vD (vM 72 71) 8191,
 vD (vT 72 73 (.ld true 2 (.s 12))) 16383,
 vD (vT 72 74 (.ld true 2 (.s 15))) 16383,
 vD (vT 72 75 (.eq false (.cells [.int, .int]) (.s 73) (.s 74))) 65535,
 vD (vP 76 (.pick (.s 72) (.s 75) (.c (.bool false)))) 131071,
 vD (vM 77 76) 262143,
 vD (vT 77 78 (.mv (.s 13))) 524287,
 vD (vT 77 79 (.mv (.s 16))) 524287,
 vD (vT 77 80 (vb .eql 78 79)) 2097151,
 vD (vP 81 (.pick (.s 77) (.s 80) (.c (.bool false)))) 4194303,
 vD (vM 82 81) 8388607,
 vD (vT 82 83 (.ld true 2 (.s 3))) 16777215,
 vD (vT 82 84 (.ld true 2 (.s 4))) 16777215,
 ⟨⟨some (82, true), some 85, .inr (.fn 30 [(.s 83), (.s 84)])⟩, some [], [], 67108863, false⟩,
 vD (vT 82 86 (.ld true 2 (.s 3))) 16777215,
 vD (vT 82 87 (.ld true 2 (.s 4))) 16777215,
 ⟨⟨some (82, true), some 88, .inr (.fn 31 [(.s 86), (.s 87)])⟩, some [], [], 536870911, false⟩,
 vD (vT 82 89 (vb .eql 85 88)) 1073741823,
 vD (vP 90 (.pick (.s 82) (.s 89) (.c (.bool false)))) 2147483647,
 vD (vM 91 90) 4294967295,
 ⟨⟨some (91, true), some 92, .inr (.fn 19 [])⟩, some [], [], 8589934591, false⟩,
 vD (vP 93 (.pick (.s 91) (.s 92) (.c (.bool false)))) 17179869183,
 vD (vM 6 93) 34359738367])
 (.ret))))))
def k6 : Cd :=
  .seq (.region [vP 4 (.mv (.c (.bool false)))])
 (.seq (.region [vM 20 0,
 vN 21 32 [(.s 20)],
 vM 19 21,
 vP 22 (.ex (.s 19) 0),
 vP 23 (.ex (.s 19) 1),
 vP 5 (.alloc 36 [(.int .i64 0), (.int .i64 0)]),
 ⟨none, none, .inl (.st 2 (.s 5) (.s 22))⟩,
 vM 6 23])
 (.seq (.region [vM 25 0,
 vN 26 33 [(.s 25)],
 vM 24 26,
 vP 27 (.ex (.s 24) 0),
 vP 28 (.ex (.s 24) 1),
 vP 7 (.alloc 36 [(.int .i64 0), (.int .i64 0)]),
 ⟨none, none, .inl (.st 2 (.s 7) (.s 27))⟩,
 vM 8 28])
 (.seq (.region [vM 30 0,
 vM 31 1,
 vN 32 34 [(.s 30), (.s 31)],
 vM 29 32,
 vP 33 (.ex (.s 29) 0),
 vP 34 (.ex (.s 29) 1),
 vM 9 33,
 vM 10 34])
 (.seq (.region [vM 36 0,
 vM 37 1,
 vN 38 35 [(.s 36), (.s 37)],
 vM 35 38,
 vP 39 (.ex (.s 35) 0),
 vP 40 (.ex (.s 35) 1),
 vM 11 39,
 vM 12 40])
 (.seq (.region [vM 42 0,
 vM 43 1,
 vN 44 36 [(.s 42), (.s 43)],
 vM 41 44,
 vP 45 (.ex (.s 41) 0),
 vP 46 (.ex (.s 41) 1),
 vP 47 (.ex (.s 41) 2),
 vP 14 (.alloc 36 [(.int .i64 0), (.int .i64 0)]),
 vM 13 45,
 ⟨none, none, .inl (.st 2 (.s 14) (.s 46))⟩,
 vM 15 47])
 (.seq (.region [vM 49 0,
 vM 50 1,
 vN 51 37 [(.s 49), (.s 50)],
 vM 48 51,
 vP 52 (.ex (.s 48) 0),
 vP 53 (.ex (.s 48) 1),
 vP 54 (.ex (.s 48) 2),
 vP 17 (.alloc 36 [(.int .i64 0), (.int .i64 0)]),
 vM 16 52,
 ⟨none, none, .inl (.st 2 (.s 17) (.s 53))⟩,
 vM 18 54])
 (.seq (.region [vP 55 (.ld true 2 (.s 5)),
 vP 56 (.ld true 2 (.s 7)),
 vP 57 (.eq false (.cells [.int, .int]) (.s 55) (.s 56)),
 vM 58 57,
 vT 58 59 (.mv (.s 6)),
 vT 58 60 (.mv (.s 8)),
 vT 58 61 (vb .eql 59 60),
 vP 62 (.pick (.s 58) (.s 61) (.c (.bool false))),
 vM 63 62,
 vT 63 64 (.mv (.s 9)),
 vT 63 65 (.mv (.s 11)),
 ⟨some (63, true), some 66, .inr (.fn 38 [(.s 64), (.s 65)])⟩,
 vP 67 (.pick (.s 63) (.s 66) (.c (.bool false))),
 vM 68 67,
 vT 68 69 (.mv (.s 10)),
 vT 68 70 (.mv (.s 12)),
 vT 68 71 (vb .eql 69 70),
 vP 72 (.pick (.s 68) (.s 71) (.c (.bool false))),
 vM 73 72,
 vT 73 74 (.mv (.s 13)),
 vT 73 75 (.mv (.s 16)),
 vT 73 76 (vb .eql 74 75),
 vP 77 (.pick (.s 73) (.s 76) (.c (.bool false))),
 vM 78 77,
 vT 78 79 (.ld true 2 (.s 14)),
 vT 78 80 (.ld true 2 (.s 17)),
 vT 78 81 (.eq false (.cells [.int, .int]) (.s 79) (.s 80)),
 vP 82 (.pick (.s 78) (.s 81) (.c (.bool false))),
 vM 83 82,
 vT 83 84 (.mv (.s 15)),
 vT 83 85 (.mv (.s 18)),
 vT 83 86 (vb .eql 84 85),
 vP 87 (.pick (.s 83) (.s 86) (.c (.bool false))),
 vM 88 87,
 ⟨some (88, true), some 89, .inr (.fn 19 [])⟩,
 vP 90 (.pick (.s 88) (.s 89) (.c (.bool false))),
 vM 4 90])
 (.ret))))))))
def k7l0 : Cd :=
  .seq (.seq (.region [vM 83 16,
 vM 84 12,
 vM 85 2,
 vP 86 (vb .add 84 85),
 vP 87 (vb .lss 83 86)])
 (.cond (.s 87) (.skip)
 (.exit 2)))
 (.seq (.block 3 (.seq (.region [vM 90 13,
 vM 91 0,
 vM 92 16,
 vI 93 1 91 92,
 vL 94 1 93,
 vP 95 (vb .add 90 94),
 vM 13 95])
 (.seq (.region [vM 96 14,
 vM 97 0,
 vM 98 16,
 vI 99 1 97 98,
 vL 100 1 99,
 vP 101 (.mm false (.s 96) (.s 100)),
 vM 14 101])
 (.region [vM 102 15,
 vM 103 0,
 vM 104 16,
 vI 105 1 103 104,
 vL 106 1 105,
 vP 107 (.mm true (.s 102) (.s 106)),
 vM 15 107]))))
 (.region [vM 88 16,
 vP 89 (vc .add 88 1),
 vM 16 89]))
def k7l1 : Cd :=
  .seq (.seq (.region [vM 68 12,
 vM 69 7,
 vP 70 (.len (.s 69)),
 vP 71 (vb .lss 68 70)])
 (.cond (.s 71) (.skip)
 (.exit 0)))
 (.seq (.block 1 (.seq (.region [vP 13 (.mv (vi 0))])
 (.seq (.region [vM 74 0,
 vM 75 12,
 vI 76 1 74 75,
 vL 77 1 76,
 vM 14 77])
 (.seq (.region [vM 78 0,
 vM 79 12,
 vI 80 1 78 79,
 vL 81 1 80,
 vM 15 81])
 (.seq (.seq (.region [vM 82 12,
 vM 16 82])
 (.block 2 (.loop k7l0)))
 (.seq (.draw [vD (vM 108 7) 0,
 vD (vM 109 12) 0,
 vD (vI 110 2 108 109) 3,
 vD (vP 111 (.ld true 2 (.s 110))) 7,
 vD (vP 112 (.ld true 2 (.s 10))) 0,
 vD (vN 113 30 [(.s 111), (.s 112)]) 31,
 vD (vM 17 113) 63])
 (.seq (.draw [vD (vM 114 7) 0,
 vD (vM 115 12) 0,
 vD (vI 116 2 114 115) 3,
 vD (vF 117 116 0) 7,
 vD (vL 118 1 117) 15,
 vD (vM 119 2) 0,
 vD (vP 120 (vb .mul 118 119)) 63,
 vD (vM 121 13) 0,
 vD (vM 122 7) 0,
 vD (vM 123 12) 0,
 vD (vI 124 2 122 123) 768,
 vD (vF 125 124 1) 1792,
 vD (vL 126 1 125) 3840,
 vD (vP 127 (vb .mul 121 126)) 8064,
 vD (vP 128 (vb .neq 120 127)) 16383,
 vD (vM 129 128) 32767,
 vD (vU 129 130 (.mv (.s 14))) 65535,
 vD (vU 129 131 (.bld [(.int .i64 0), (.int .i64 0)] [(0, 1, (.s 130)), (1, 1, (vi 1))])) 131071,
 vD (vU 129 132 (.mv (.s 7))) 65535,
 vD (vU 129 133 (.mv (.s 12))) 65535,
 vD (vU 129 134 (.ias 2 (.s 132) (.s 133))) 851967,
 vD (vU 129 135 (.ld true 2 (.s 134))) 1900543,
 ⟨⟨some (129, false), some 136, .inr (.fn 30 [(.s 131), (.s 135)])⟩, some [], [], 4194303, false⟩,
 vD (vU 129 137 (vc .gtr 136 0)) 8388607,
 vD (vP 138 (.pick (.s 129) (.c (.bool true)) (.s 137))) 16777215,
 vD (vM 139 138) 33554431,
 vD (vU 139 140 (.mv (.s 7))) 67108863,
 vD (vU 139 141 (.mv (.s 12))) 67108863,
 vD (vU 139 142 (.ias 2 (.s 140) (.s 141))) 268435455,
 vD (vU 139 143 (.ld true 2 (.s 142))) 536870911,
 vD (vU 139 144 (.mv (.s 15))) 67108863,
 vD (vU 139 145 (.bld [(.int .i64 0), (.int .i64 0)] [(0, 1, (.s 144)), (1, 1, (vi 1))])) 1140850687,
 ⟨⟨some (139, false), some 146, .inr (.fn 30 [(.s 143), (.s 145)])⟩, some [], [], 4294967295, false⟩,
 vD (vU 139 147 (vc .gtr 146 0)) 8589934591,
 vD (vP 148 (.pick (.s 139) (.c (.bool true)) (.s 147))) 17179869183,
 vD (vM 149 148) 34359738367,
 vD (vU 149 150 (.mv (.s 17))) 68719476735,
 vD (vU 149 151 (vc .gtr 150 0)) 137438953471,
 vD (vP 152 (.pick (.s 149) (.c (.bool true)) (.s 151))) 274877906943,
 vD (vM 153 152) 549755813887,
 vD (vU 153 154 (.mv (.s 17))) 1099511627775,
 vD (vU 153 155 (vc .eql 154 0)) 2199023255551,
 vD (vU 153 156 (.mv (.s 155))) 4398046511103,
 vD (vT 156 157 (.mv (.s 12))) 8796093022207,
 vD (vT 156 158 (.mv (.s 9))) 8796093022207,
 vD (vT 156 159 (vb .lss 157 158)) 35184372088831,
 vD (vU 153 160 (.pick (.s 156) (.s 159) (.c (.bool false)))) 70368744177663,
 vD (vP 161 (.pick (.s 153) (.c (.bool true)) (.s 160))) 140737488355327])
 (.cond (.s 161) (.seq (.region [vP 6 (.mv (.c (.bool false)))])
 (.ret))
 (.skip)))))))))
 (.region [vM 72 12,
 vP 73 (vc .add 72 1),
 vM 12 73]))
def k7 : Cd :=
  .seq (.region [vP 6 (.mv (.c (.bool false)))])
 (.seq (.region [vM 26 0,
 vM 27 2,
 vN 28 34 [(.s 26), (.s 27)],
 vM 25 28,
 vP 29 (.ex (.s 25) 0),
 vP 30 (.ex (.s 25) 1),
 vM 7 29,
 vM 8 30])
 (.seq (.region [vM 32 0,
 vM 33 2,
 vN 34 36 [(.s 32), (.s 33)],
 vM 31 34,
 vP 35 (.ex (.s 31) 0),
 vP 36 (.ex (.s 31) 1),
 vP 37 (.ex (.s 31) 2),
 vP 10 (.alloc 36 [(.int .i64 0), (.int .i64 0)]),
 vM 9 35,
 ⟨none, none, .inl (.st 2 (.s 10) (.s 36))⟩,
 vM 11 37])
 (.seq (.seq (.region [vM 38 8,
 vM 39 11,
 vP 40 (vb .neq 38 39),
 vM 41 40,
 vU 41 42 (.mv (.s 8)),
 vU 41 43 (vc .neq 42 0),
 vU 41 44 (.mv (.s 43)),
 vT 44 45 (.mv (.s 7)),
 vT 44 46 (.len (.s 45)),
 vT 44 47 (vc .gtr 46 0),
 vU 41 48 (.pick (.s 44) (.s 47) (.c (.bool false))),
 vP 49 (.pick (.s 41) (.c (.bool true)) (.s 48)),
 vM 50 49,
 vU 50 51 (.mv (.s 8)),
 vU 50 52 (vc .eql 51 0),
 vU 50 53 (.mv (.s 52)),
 vT 53 54 (.mv (.s 2)),
 vT 53 55 (vc .lss 54 1),
 vT 53 56 (.mv (.s 55)),
 vU 56 57 (.mv (.s 7)),
 vU 56 58 (.len (.s 57)),
 vU 56 59 (.mv (.s 0)),
 vU 56 60 (.len (.s 59)),
 vU 56 61 (.mv (.s 2)),
 vU 56 62 (vb .sub 60 61),
 vU 56 63 (vc .add 62 1),
 vU 56 64 (vb .neq 58 63),
 vT 53 65 (.pick (.s 56) (.c (.bool true)) (.s 64)),
 vU 50 66 (.pick (.s 53) (.s 65) (.c (.bool false))),
 vP 67 (.pick (.s 50) (.c (.bool true)) (.s 66))])
 (.cond (.s 67) (.seq (.region [vP 6 (.mv (.c (.bool false)))])
 (.ret))
 (.skip)))
 (.seq (.seq (.region [vP 12 (.mv (vi 0))])
 (.block 0 (.loop k7l1)))
 (.seq (.region [vM 163 0,
 vN 164 32 [(.s 163)],
 vM 162 164,
 vP 165 (.ex (.s 162) 0),
 vP 166 (.ex (.s 162) 1),
 vP 18 (.alloc 36 [(.int .i64 0), (.int .i64 0)]),
 ⟨none, none, .inl (.st 2 (.s 18) (.s 165))⟩,
 vM 19 166])
 (.seq (.region [vM 168 1,
 vN 169 32 [(.s 168)],
 vM 167 169,
 vP 170 (.ex (.s 167) 0),
 vP 171 (.ex (.s 167) 1),
 vP 20 (.alloc 36 [(.int .i64 0), (.int .i64 0)]),
 ⟨none, none, .inl (.st 2 (.s 20) (.s 170))⟩,
 vM 21 171])
 (.seq (.region [vP 173 (.bs 3 1 0 [(.int .i64 0)] []),
 vM 174 0,
 vP 175 (.app 3 1 8 (.s 173) (.s 174)),
 vM 176 1,
 vP 177 (.app 3 1 8 (.s 175) (.s 176)),
 vN 178 32 [(.s 177)],
 vM 172 178,
 vP 179 (.ex (.s 172) 0),
 vP 180 (.ex (.s 172) 1),
 vP 22 (.alloc 36 [(.int .i64 0), (.int .i64 0)]),
 ⟨none, none, .inl (.st 2 (.s 22) (.s 179))⟩,
 vM 23 180])
 (.seq (.seq (.region [vM 181 19,
 vP 182 (vc .neq 181 0),
 vM 183 182,
 vU 183 184 (.mv (.s 21)),
 vU 183 185 (vc .neq 184 0),
 vP 186 (.pick (.s 183) (.c (.bool true)) (.s 185)),
 vM 187 186,
 vU 187 188 (.mv (.s 23)),
 vU 187 189 (vc .neq 188 0),
 vP 190 (.pick (.s 187) (.c (.bool true)) (.s 189))])
 (.cond (.s 190) (.seq (.region [vN 191 19 [],
 vM 6 191])
 (.ret))
 (.skip)))
 (.seq (.seq (.region [vP 192 (.ld true 2 (.s 18)),
 vP 193 (.ld true 2 (.s 20)),
 vN 194 30 [(.s 192), (.s 193)],
 vP 195 (vc .gtr 194 0)])
 (.cond (.s 195) (.seq (.region [vP 196 (.ld true 2 (.s 18)),
 vP 24 (.alloc 36 [(.int .i64 0), (.int .i64 0)]),
 ⟨none, none, .inl (.st 2 (.s 24) (.s 196))⟩])
 (.seq (.region [vP 197 (.ld true 2 (.s 20)),
 ⟨none, none, .inl (.st 2 (.s 18) (.s 197))⟩])
 (.region [vP 198 (.ld true 2 (.s 24)),
 ⟨none, none, .inl (.st 2 (.s 20) (.s 198))⟩])))
 (.skip)))
 (.seq (.region [vP 199 (.ld true 2 (.s 18)),
 vP 200 (.ld true 2 (.s 22)),
 vN 201 30 [(.s 199), (.s 200)],
 vP 202 (vc .leq 201 0),
 vM 203 202,
 vT 203 204 (.ld true 2 (.s 22)),
 vT 203 205 (.ld true 2 (.s 20)),
 ⟨some (203, true), some 206, .inr (.fn 30 [(.s 204), (.s 205)])⟩,
 vT 203 207 (vc .leq 206 0),
 vP 208 (.pick (.s 203) (.s 207) (.c (.bool false))),
 vM 209 208,
 ⟨some (209, true), some 210, .inr (.fn 19 [])⟩,
 vP 211 (.pick (.s 209) (.s 210) (.c (.bool false))),
 vM 6 211])
 (.ret)))))))))))
def k10l0 : Cd :=
  .seq (.region [vP 14 (vb .lss 13 12)])
 (.seq (.cond (.s 14) (.skip)
 (.exit 0))
 (.seq (.block 1 (.seq (.region [vM 15 13,
 vM 5 15])
 (.seq (.draw [vD (vM 16 0) 0,
 vD (vM 17 5) 0,
 vD (vI 18 2 16 17) 3,
 vD (vP 19 (.ld true 2 (.s 18))) 7,
 vD (vM 20 1) 0,
 vD (vM 21 5) 0,
 vD (vI 22 2 20 21) 48,
 vD (vP 23 (.ld true 2 (.s 22))) 112,
 vD (vP 24 (.eq true (.cells [.int, .int]) (.s 19) (.s 23))) 255])
 (.cond (.s 24) (.seq (.region [vP 4 (.mv (.c (.bool false)))])
 (.ret))
 (.skip)))))
 (.region [vP 25 (vc .add 13 1),
 vM 13 25])))
def k10 : Cd :=
  .seq (.region [vP 4 (.mv (.c (.bool false)))])
 (.seq (.seq (.region [vM 6 0,
 vP 7 (.len (.s 6)),
 vM 8 1,
 vP 9 (.len (.s 8)),
 vP 10 (vb .neq 7 9)])
 (.cond (.s 10) (.seq (.region [vP 4 (.mv (.c (.bool false)))])
 (.ret))
 (.skip)))
 (.seq (.seq (.region [vM 11 0,
 vP 12 (.len (.s 11)),
 vP 13 (.mv (vi 0))])
 (.block 0 (.loop k10l0)))
 (.seq (.region [vP 4 (.mv (.c (.bool true)))])
 (.ret))))
def k11 : Cd :=
  .seq (.region [vP 2 (.mv (.c (.slice none 0 0)))])
 (.seq (.region [vM 3 0,
 vN 4 40 [(.s 3), (.c (.slice none 0 0)), (.f 41)],
 vM 2 4])
 (.ret))
def k17 : Cd :=
  .seq (.region [vP 4 (.mv (.c (.slice none 0 0)))])
 (.seq (.region [vM 5 0,
 vM 6 1,
 vN 7 40 [(.s 5), (.s 6), (.f 46)],
 vM 4 7])
 (.ret))
def k19 : Cd :=
  .seq (.region [vP 0 (.mv (.c (.bool false)))])
 (.seq (.region [vP 16 (.bld [(.int .i64 0), (.int .i64 0), (.int .i64 0), (.int .i64 0), (.int .i64 0)] [(0, 1, (vi 0)), (1, 1, (vi 1)), (2, 1, (vi 5)), (3, 1, (vi 7)), (4, 1, (vi 1))]),
 vP 17 (.bld [(.int .i64 0), (.int .i64 0), (.int .i64 0), (.int .i64 0), (.int .i64 0)] [(0, 1, (vi 1)), (1, 1, (vi 2)), (2, 1, (vi 10)), (3, 1, (vi 10)), (4, 1, (vi 1))]),
 vP 18 (.bst 61 5 2 [(.int .i64 0), (.int .i64 0), (.int .i64 0), (.int .i64 0), (.int .i64 0)] [(0, (.s 16)), (1, (.s 17))]),
 vP 19 (.bld [(.slice none 0 0), (.slice none 0 0)] [(0, 1, (.s 18))]),
 vP 1 (.alloc 65 [(.slice none 0 0), (.slice none 0 0)]),
 ⟨none, none, .inl (.st 2 (.s 1) (.s 19))⟩])
 (.seq (.region [vP 20 (.bld [(.int .i64 0), (.int .i64 0), (.int .i64 0), (.int .i64 0), (.int .i64 0)] [(0, 1, (vi 1)), (2, 1, (vi 2)), (3, 1, (.c (.int .i64 (-1))))]),
 vP 2 (.alloc 67 [(.int .i64 0), (.int .i64 0), (.int .i64 0), (.int .i64 0), (.int .i64 0)]),
 ⟨none, none, .inl (.st 5 (.s 2) (.s 20))⟩])
 (.seq (.region [vP 21 (.bld [(.int .i64 0), (.int .i64 0), (.int .i64 0), (.int .i64 0), (.int .i64 0)] [(0, 1, (vi 2)), (2, 1, (vi 1)), (3, 1, (vi 9)), (4, 1, (vi 9))]),
 vP 3 (.alloc 67 [(.int .i64 0), (.int .i64 0), (.int .i64 0), (.int .i64 0), (.int .i64 0)]),
 ⟨none, none, .inl (.st 5 (.s 3) (.s 21))⟩])
 (.seq (.region [vP 23 (.ld true 2 (.s 1)),
 vP 24 (.ld true 5 (.s 2)),
 vN 25 47 [(.s 23), (.s 24), (vi 0)],
 vM 22 25,
 vP 26 (.ex (.s 22) 0),
 vP 27 (.ex (.s 22) 1),
 vM 4 26,
 vM 5 27])
 (.seq (.region [vP 29 (.ld true 2 (.s 1)),
 vP 30 (.ld true 5 (.s 2)),
 vP 31 (.ld true 5 (.s 3)),
 vN 32 48 [(.s 29), (.s 30), (.s 31)],
 vM 28 32,
 vP 33 (.ex (.s 28) 0),
 vP 34 (.ex (.s 28) 1),
 vP 6 (.alloc 71 [(.bool false), (.bool false), (.bool false)]),
 ⟨none, none, .inl (.st 3 (.s 6) (.s 33))⟩,
 vM 7 34])
 (.seq (.region [vP 36 (.ld true 2 (.s 1)),
 vP 37 (.ld true 5 (.s 2)),
 vP 38 (.ld true 5 (.s 3)),
 vP 39 (.bst 67 5 2 [(.int .i64 0), (.int .i64 0), (.int .i64 0), (.int .i64 0), (.int .i64 0)] [(0, (.s 37)), (1, (.s 38))]),
 vP 40 (.bld [(.int .i64 0), (.int .i64 0)] [(0, 1, (vi 14)), (1, 1, (vi 15))]),
 vN 41 49 [(.s 36), (.s 39), (vi 0), (.s 40)],
 vM 35 41,
 vP 42 (.ex (.s 35) 0),
 vP 43 (.ex (.s 35) 1),
 vP 44 (.ex (.s 35) 2),
 vM 8 42,
 vM 9 43,
 vM 10 44])
 (.seq (.region [vP 45 (.bld [(.int .i64 0), (.int .i64 0)] [(0, 1, (vi 1)), (1, 1, (vi 2))]),
 vP 46 (.bld [(.int .i64 0), (.int .i64 0)] [(0, 1, (vi 6)), (1, 1, (vi 6))]),
 vP 47 (.bst 55 2 2 [(.int .i64 0), (.int .i64 0)] [(0, (.s 45)), (1, (.s 46))]),
 vN 48 24 [(.s 47), (.c (.int .i64 (-1))), (vi 2)],
 vM 11 48])
 (.seq (.region [vP 50 (.bst 3 1 3 [(.int .i64 0)] [(0, (vi 3)), (1, (vi 4)), (2, (vi 9))]),
 vN 51 36 [(.s 50), (vi 2)],
 vM 49 51,
 vP 52 (.ex (.s 49) 0),
 vP 53 (.ex (.s 49) 1),
 vP 54 (.ex (.s 49) 2),
 vP 13 (.alloc 36 [(.int .i64 0), (.int .i64 0)]),
 vM 12 52,
 ⟨none, none, .inl (.st 2 (.s 13) (.s 53))⟩,
 vM 14 54])
 (.seq (.region [vM 55 5,
 vP 56 (vc .eql 55 0),
 vM 57 56,
 vT 57 58 (.mv (.s 7)),
 vT 57 59 (vc .eql 58 0),
 vP 60 (.pick (.s 57) (.s 59) (.c (.bool false))),
 vM 61 60,
 vT 61 62 (.mv (.s 10)),
 vT 61 63 (vc .eql 62 0),
 vP 64 (.pick (.s 61) (.s 63) (.c (.bool false))),
 vM 65 64,
 vT 65 66 (.mv (.s 14)),
 vT 65 67 (vc .eql 66 0),
 vP 68 (.pick (.s 65) (.s 67) (.c (.bool false))),
 vM 15 68])
 (.seq (.region [vM 69 15,
 vM 70 69,
 vT 70 71 (.mv (.s 4)),
 vT 70 72 (.bld [(.int .i64 0), (.int .i64 0)] [(0, 1, (vi 14)), (1, 1, (vi 17))]),
 vT 70 73 (.bst 55 2 1 [(.int .i64 0), (.int .i64 0)] [(0, (.s 72))]),
 ⟨some (70, true), some 74, .inr (.fn 10 [(.s 71), (.s 73)])⟩,
 vP 75 (.pick (.s 70) (.s 74) (.c (.bool false))),
 vM 76 75,
 vT 76 77 (.fa (.s 6) 0),
 vT 76 78 (.ld false 1 (.s 77)),
 vP 79 (.pick (.s 76) (.s 78) (.c (.bool false))),
 vM 80 79,
 vT 80 81 (.fa (.s 6) 1),
 vT 80 82 (.ld false 1 (.s 81)),
 vP 83 (.pick (.s 80) (.s 82) (.c (.bool false))),
 vM 84 83,
 vT 84 85 (.fa (.s 6) 2),
 vT 84 86 (.ld false 1 (.s 85)),
 vT 84 87 (.not (.s 86)),
 vP 88 (.pick (.s 84) (.s 87) (.c (.bool false))),
 vM 89 88,
 vT 89 90 (.mv (.s 8)),
 vT 89 91 (vc .eql 90 0),
 vP 92 (.pick (.s 89) (.s 91) (.c (.bool false))),
 vM 93 92,
 vT 93 94 (.mv (.s 9)),
 vT 93 95 (vc .eql 94 2),
 vP 96 (.pick (.s 93) (.s 95) (.c (.bool false))),
 vM 97 96,
 vT 97 98 (.mv (.s 11)),
 vT 97 99 (.bld [(.int .i64 0), (.int .i64 0)] [(0, 1, (vi 0)), (1, 1, (vi 8))]),
 vT 97 100 (.bst 55 2 1 [(.int .i64 0), (.int .i64 0)] [(0, (.s 99))]),
 ⟨some (97, true), some 101, .inr (.fn 10 [(.s 98), (.s 100)])⟩,
 vP 102 (.pick (.s 97) (.s 101) (.c (.bool false))),
 vM 103 102,
 vT 103 104 (.mv (.s 12)),
 vT 103 105 (vc .eql 104 1),
 vP 106 (.pick (.s 103) (.s 105) (.c (.bool false))),
 vM 107 106,
 vT 107 108 (.ld true 2 (.s 13)),
 vT 107 109 (.bld [(.int .i64 0), (.int .i64 0)] [(0, 1, (vi 13)), (1, 1, (vi 2))]),
 vT 107 110 (.eq false (.cells [.int, .int]) (.s 108) (.s 109)),
 vP 111 (.pick (.s 107) (.s 110) (.c (.bool false))),
 vM 0 111])
 (.ret)))))))))))
def k22 : Cd :=
  .seq (.region [vP 3 (.box 3 1 (.s 1)),
 vP 4 (.mv (.c (.bool false)))])
 (.seq (.region [vM 5 0,
 vN 6 51 [(.s 5)],
 vP 7 (.mkf (.func 52) [] [(.s 3)]),
 vN 8 50 [(.s 6), (.s 7)],
 vM 4 8])
 (.ret))
def k24l0 : Cd :=
  .seq (.region [vP 26 (vb .lss 25 24)])
 (.seq (.cond (.s 26) (.skip)
 (.exit 0))
 (.seq (.block 1 (.seq (.region [vM 27 25,
 vI 28 2 23 25,
 vP 29 (.ld true 2 (.s 28)),
 vP 9 (.alloc 55 [(.int .i64 0), (.int .i64 0)]),
 vM 8 27,
 ⟨none, none, .inl (.st 2 (.s 9) (.s 29))⟩])
 (.seq (.seq (.region [vF 30 9 0,
 vL 31 1 30,
 vP 32 (.bin .neq (.s 31) (.c (.int .i64 (-1000000000))))])
 (.cond (.s 32) (.region [vM 33 7,
 vM 34 8,
 vI 35 2 33 34,
 vF 36 35 0,
 vL 37 1 36,
 vM 38 1,
 vP 39 (vb .add 37 38),
 vI 40 2 33 34,
 vF 41 40 0,
 ⟨none, none, .inl (.st 1 (.s 41) (.s 39))⟩])
 (.skip)))
 (.seq (.region [vF 42 9 1,
 vL 43 1 42,
 vP 44 (vc .neq 43 1000000000)])
 (.cond (.s 44) (.region [vM 45 7,
 vM 46 8,
 vI 47 2 45 46,
 vF 48 47 1,
 vL 49 1 48,
 vM 50 2,
 vP 51 (vb .add 49 50),
 vI 52 2 45 46,
 vF 53 52 1,
 ⟨none, none, .inl (.st 1 (.s 53) (.s 51))⟩])
 (.skip))))))
 (.region [vP 54 (vc .add 25 1),
 vM 25 54])))
def k24 : Cd :=
  .seq (.region [vP 6 (.mv (.c (.slice none 0 0)))])
 (.seq (.seq (.region [vM 10 1,
 vP 11 (.bin .lss (.s 10) (.c (.int .i64 (-1000000000)))),
 vM 12 11,
 vU 12 13 (.mv (.s 1)),
 vU 12 14 (.mv (.s 2)),
 vU 12 15 (vb .gtr 13 14),
 vP 16 (.pick (.s 12) (.c (.bool true)) (.s 15)),
 vM 17 16,
 vU 17 18 (.mv (.s 2)),
 vU 17 19 (vc .gtr 18 1000000000),
 vP 20 (.pick (.s 17) (.c (.bool true)) (.s 19))])
 (.cond (.s 20) (.seq (.region [vP 6 (.mv (.c (.slice none 0 0)))])
 (.ret))
 (.skip)))
 (.seq (.region [vM 21 0,
 vN 22 11 [(.s 21)],
 vM 7 22])
 (.seq (.seq (.region [vM 23 7,
 vP 24 (.len (.s 23)),
 vP 25 (.mv (vi 0))])
 (.block 0 (.loop k24l0)))
 (.seq (.region [vM 55 7,
 vN 56 11 [(.s 55)],
 vM 6 56])
 (.ret)))))
def k26 : Cd :=
  .seq (.region [vP 4 (.alloc 36 [(.int .i64 0), (.int .i64 0)]),
 vP 5 (.mv (vi 0))])
 (.seq (.seq (.region [vM 7 0,
 vN 8 53 [(.s 7), (.c (.int .i64 (-1000000000))), (vi 1000000000)],
 vP 9 (.not (.s 8)),
 vM 10 9,
 vU 10 11 (.mv (.s 1)),
 ⟨some (10, false), some 12, .inr (.fn 53 [(.s 11), (.c (.int .i64 (-1000000000))), (vi 1000000000)])⟩,
 vU 10 13 (.not (.s 12)),
 vP 14 (.pick (.s 10) (.c (.bool true)) (.s 13)),
 vM 15 14,
 vU 15 16 (.mv (.s 1)),
 vU 15 17 (vc .eql 16 0),
 vP 18 (.pick (.s 15) (.c (.bool true)) (.s 17))])
 (.cond (.s 18) (.seq (.region [vP 19 (.bld [(.int .i64 0), (.int .i64 0)] []),
 ⟨none, none, .inl (.st 2 (.s 4) (.s 19))⟩,
 vP 5 (.mv (vi 1))])
 (.ret))
 (.skip)))
 (.seq (.region [vM 20 0,
 vM 21 1,
 vN 22 54 [(.s 20), (.s 21)],
 vM 6 22])
 (.seq (.seq (.region [vM 23 1,
 vP 24 (vc .lss 23 0)])
 (.cond (.s 24) (.region [vM 25 6,
 vP 26 (.neg (.s 25)),
 vM 6 26])
 (.skip)))
 (.seq (.draw [vD (vM 27 0) 0,
 vD (vM 28 6) 0,
 vD (vP 29 (vb .quo 27 28)) 3,
 vD (vM 30 1) 0,
 vD (vM 31 6) 0,
 vD (vP 32 (vb .quo 30 31)) 24,
 vD (vP 33 (.bld [(.int .i64 0), (.int .i64 0)] [(0, 1, (.s 29)), (1, 1, (.s 32))])) 63,
 ⟨⟨none, none, .inl (.st 2 (.s 4) (.s 33))⟩, (some [.at 4]), [], 127, false⟩,
 vD (vP 5 (.mv (vi 0))) 255])
 (.ret)))))
def k27 : Cd :=
  .seq (.region [vP 4 (.alloc 36 [(.int .i64 0), (.int .i64 0)]),
 vP 5 (.mv (vi 0))])
 (.seq (.seq (.region [vM 7 0,
 vN 8 55 [(.s 7), (.c (.int .i64 (-1000000000))), (vi 1000000000)],
 vP 9 (.not (.s 8)),
 vM 10 9,
 vU 10 11 (.mv (.s 1)),
 ⟨some (10, false), some 12, .inr (.fn 55 [(.s 11), (.c (.int .i64 (-1000000000))), (vi 1000000000)])⟩,
 vU 10 13 (.not (.s 12)),
 vP 14 (.pick (.s 10) (.c (.bool true)) (.s 13)),
 vM 15 14,
 vU 15 16 (.mv (.s 1)),
 vU 15 17 (vc .eql 16 0),
 vP 18 (.pick (.s 15) (.c (.bool true)) (.s 17))])
 (.cond (.s 18) (.seq (.region [vP 19 (.bld [(.int .i64 0), (.int .i64 0)] []),
 ⟨none, none, .inl (.st 2 (.s 4) (.s 19))⟩,
 vP 5 (.mv (vi 1))])
 (.ret))
 (.skip)))
 (.seq (.seq (.region [vM 20 1,
 vP 21 (vc .lss 20 0)])
 (.cond (.s 21) (.seq (.region [vM 22 0,
 vP 23 (.neg (.s 22)),
 vM 0 23])
 (.region [vM 24 1,
 vP 25 (.neg (.s 24)),
 vM 1 25]))
 (.skip)))
 (.seq (.region [vM 26 0,
 vM 27 0,
 vP 28 (.neg (.s 27)),
 vP 29 (.mm true (.s 26) (.s 28)),
 vM 30 1,
 vN 31 56 [(.s 29), (.s 30)],
 vM 6 31])
 (.seq (.draw [vD (vM 32 0) 0,
 vD (vM 33 6) 0,
 vD (vP 34 (vb .quo 32 33)) 3,
 vD (vM 35 1) 0,
 vD (vM 36 6) 0,
 vD (vP 37 (vb .quo 35 36)) 24,
 vD (vP 38 (.bld [(.int .i64 0), (.int .i64 0)] [(0, 1, (.s 34)), (1, 1, (.s 37))])) 63,
 ⟨⟨none, none, .inl (.st 2 (.s 4) (.s 38))⟩, (some [.at 4]), [], 127, false⟩,
 vD (vP 5 (.mv (vi 0))) 255])
 (.ret)))))
def k28 : Cd :=
  .seq (.region [vP 8 (.alloc 36 [(.int .i64 0), (.int .i64 0)]),
 vP 9 (.alloc 36 [(.int .i64 0), (.int .i64 0)]),
 vP 10 (.mv (vi 0))])
 (.seq (.seq (.region [vM 11 0,
 vP 12 (vc .lss 11 0),
 vM 13 12,
 vU 13 14 (.mv (.s 0)),
 vU 13 15 (.mv (.s 1)),
 vU 13 16 (vb .gtr 14 15),
 vP 17 (.pick (.s 13) (.c (.bool true)) (.s 16)),
 vM 18 17,
 vU 18 19 (.mv (.s 1)),
 vU 18 20 (vc .gtr 19 1000000000),
 vP 21 (.pick (.s 18) (.c (.bool true)) (.s 20)),
 vM 22 21,
 vU 22 23 (.mv (.s 2)),
 vU 22 24 (vc .lss 23 1),
 vP 25 (.pick (.s 22) (.c (.bool true)) (.s 24)),
 vM 26 25,
 vU 26 27 (.mv (.s 2)),
 vU 26 28 (.mv (.s 3)),
 vU 26 29 (vb .gtr 27 28),
 vP 30 (.pick (.s 26) (.c (.bool true)) (.s 29)),
 vM 31 30,
 vU 31 32 (.mv (.s 3)),
 vU 31 33 (vc .gtr 32 1000000000),
 vP 34 (.pick (.s 31) (.c (.bool true)) (.s 33))])
 (.cond (.s 34) (.seq (.region [vP 35 (.bld [(.int .i64 0), (.int .i64 0)] []),
 vP 36 (.bld [(.int .i64 0), (.int .i64 0)] []),
 ⟨none, none, .inl (.st 2 (.s 8) (.s 35))⟩,
 ⟨none, none, .inl (.st 2 (.s 9) (.s 36))⟩,
 vP 10 (.mv (vi 1))])
 (.ret))
 (.skip)))
 (.seq (.region [vM 38 0,
 vM 39 3,
 vN 40 26 [(.s 38), (.s 39)],
 vM 37 40,
 vP 41 (.ex (.s 37) 0),
 vP 42 (.ex (.s 37) 1),
 ⟨none, none, .inl (.st 2 (.s 8) (.s 41))⟩])
 (.seq (.region [vM 44 1,
 vM 45 2,
 vN 46 26 [(.s 44), (.s 45)],
 vM 43 46,
 vP 47 (.ex (.s 43) 0),
 vP 48 (.ex (.s 43) 1),
 ⟨none, none, .inl (.st 2 (.s 9) (.s 47))⟩])
 (.seq (.draw [vD (vP 49 (.ld true 2 (.s 8))) 0,
 ⟨vP 50 (.ld true 2 (.s 9)), some [], [.at 8], 0, false⟩,
 ⟨⟨none, none, .inl (.st 2 (.s 8) (.s 49))⟩, (some [.at 8]), [], 1, false⟩,
 ⟨⟨none, none, .inl (.st 2 (.s 9) (.s 50))⟩, (some [.at 9]), [], 7, false⟩,
 vD (vP 10 (.mv (vi 0))) 15])
 (.ret)))))
def k29 : Cd :=
  .seq (.region [vP 8 (.alloc 36 [(.int .i64 0), (.int .i64 0)]),
 vP 9 (.alloc 36 [(.int .i64 0), (.int .i64 0)]),
 vP 10 (.mv (vi 0))])
 (.seq (.seq (.region [vM 15 0,
 vP 16 (vc .lss 15 0),
 vM 17 16,
 vU 17 18 (.mv (.s 0)),
 vU 17 19 (.mv (.s 1)),
 vU 17 20 (vb .gtr 18 19),
 vP 21 (.pick (.s 17) (.c (.bool true)) (.s 20)),
 vM 22 21,
 vU 22 23 (.mv (.s 1)),
 vU 22 24 (vc .gtr 23 1000000000),
 vP 25 (.pick (.s 22) (.c (.bool true)) (.s 24)),
 vM 26 25,
 vU 26 27 (.mv (.s 2)),
 vU 26 28 (vc .lss 27 1),
 vP 29 (.pick (.s 26) (.c (.bool true)) (.s 28)),
 vM 30 29,
 vU 30 31 (.mv (.s 2)),
 vU 30 32 (.mv (.s 3)),
 vU 30 33 (vb .gtr 31 32),
 vP 34 (.pick (.s 30) (.c (.bool true)) (.s 33)),
 vM 35 34,
 vU 35 36 (.mv (.s 3)),
 vU 35 37 (vc .gtr 36 1000000000),
 vP 38 (.pick (.s 35) (.c (.bool true)) (.s 37))])
 (.cond (.s 38) (.seq (.region [vP 39 (.bld [(.int .i64 0), (.int .i64 0)] []),
 vP 40 (.bld [(.int .i64 0), (.int .i64 0)] []),
 ⟨none, none, .inl (.st 2 (.s 8) (.s 39))⟩,
 ⟨none, none, .inl (.st 2 (.s 9) (.s 40))⟩,
 vP 10 (.mv (vi 1))])
 (.ret))
 (.skip)))
 (.seq (.region [vM 42 0,
 vM 43 3,
 vN 44 27 [(.s 42), (.s 43)],
 vM 41 44,
 vP 45 (.ex (.s 41) 0),
 vP 46 (.ex (.s 41) 1),
 vP 11 (.alloc 36 [(.int .i64 0), (.int .i64 0)]),
 ⟨none, none, .inl (.st 2 (.s 11) (.s 45))⟩,
 vM 12 46])
 (.seq (.region [vM 48 1,
 vM 49 2,
 vN 50 27 [(.s 48), (.s 49)],
 vM 47 50,
 vP 51 (.ex (.s 47) 0),
 vP 52 (.ex (.s 47) 1),
 vP 13 (.alloc 36 [(.int .i64 0), (.int .i64 0)]),
 ⟨none, none, .inl (.st 2 (.s 13) (.s 51))⟩,
 vM 14 52])
 (.seq (.draw [vD (vP 53 (.ld true 2 (.s 11))) 0,
 ⟨vP 54 (.ld true 2 (.s 13)), some [], [.at 8], 0, false⟩,
 ⟨⟨none, none, .inl (.st 2 (.s 8) (.s 53))⟩, (some [.at 8]), [], 1, false⟩,
 ⟨⟨none, none, .inl (.st 2 (.s 9) (.s 54))⟩, (some [.at 9]), [], 7, false⟩,
 vD (vP 10 (.mv (vi 0))) 15])
 (.ret)))))
def k30 : Cd :=
  .seq (.region [vP 2 (.box 36 2 (.s 0)),
 vP 3 (.box 36 2 (.s 1)),
 vP 4 (.mv (vi 0))])
 (.seq (.seq (.region [vP 5 (.ld true 2 (.s 2)),
 vN 6 57 [(.s 5)],
 vP 7 (.not (.s 6)),
 vM 8 7,
 vU 8 9 (.ld true 2 (.s 3)),
 ⟨some (8, false), some 10, .inr (.fn 57 [(.s 9)])⟩,
 vU 8 11 (.not (.s 10)),
 vP 12 (.pick (.s 8) (.c (.bool true)) (.s 11))])
 (.cond (.s 12) (.seq (.region [vP 4 (.mv (vi 0))])
 (.ret))
 (.skip)))
 (.seq (.region [vF 13 2 0,
 vL 14 1 13,
 vF 15 3 1,
 vL 16 1 15,
 vP 17 (vb .mul 14 16),
 vF 18 3 0,
 vL 19 1 18,
 vF 20 2 1,
 vL 21 1 20,
 vP 22 (vb .mul 19 21),
 vN 23 58 [(.s 17), (.s 22)],
 vM 4 23])
 (.ret)))
def k31 : Cd :=
  .seq (.region [vP 2 (.box 36 2 (.s 0)),
 vP 3 (.box 36 2 (.s 1)),
 vP 4 (.mv (vi 0))])
 (.seq (.seq (.region [vP 7 (.ld true 2 (.s 2)),
 vN 8 59 [(.s 7)],
 vP 9 (.not (.s 8)),
 vM 10 9,
 vU 10 11 (.ld true 2 (.s 3)),
 ⟨some (10, false), some 12, .inr (.fn 59 [(.s 11)])⟩,
 vU 10 13 (.not (.s 12)),
 vP 14 (.pick (.s 10) (.c (.bool true)) (.s 13))])
 (.cond (.s 14) (.seq (.region [vP 4 (.mv (vi 0))])
 (.ret))
 (.skip)))
 (.seq (.region [vF 15 2 0,
 vL 16 1 15,
 vF 17 3 1,
 vL 18 1 17,
 vP 19 (vb .mul 16 18),
 vM 5 19])
 (.seq (.region [vF 20 3 0,
 vL 21 1 20,
 vF 22 2 1,
 vL 23 1 22,
 vP 24 (vb .mul 21 23),
 vM 6 24])
 (.seq (.seq (.region [vM 25 5,
 vM 26 6,
 vP 27 (vb .lss 25 26)])
 (.cond (.s 27) (.seq (.region [vP 4 (.mv (.c (.int .i64 (-1))))])
 (.ret))
 (.skip)))
 (.seq (.seq (.region [vM 28 5,
 vM 29 6,
 vP 30 (vb .gtr 28 29)])
 (.cond (.s 30) (.seq (.region [vP 4 (.mv (vi 1))])
 (.ret))
 (.skip)))
 (.seq (.region [vP 4 (.mv (vi 0))])
 (.ret)))))))
def k32l0 : Cd :=
  .seq (.region [vP 14 (vb .lss 13 12)])
 (.seq (.cond (.s 14) (.skip)
 (.exit 0))
 (.seq (.block 1 (.seq (.region [vI 15 1 11 13,
 vL 16 1 15,
 vM 6 16])
 (.region [vM 17 4,
 vM 18 6,
 vP 19 (vb .add 17 18),
 vM 4 19])))
 (.region [vP 20 (vc .add 13 1),
 vM 13 20])))
def k32 : Cd :=
  .seq (.region [vP 2 (.alloc 36 [(.int .i64 0), (.int .i64 0)]),
 vP 3 (.mv (vi 0))])
 (.seq (.seq (.region [vM 7 0,
 vN 8 60 [(.s 7)],
 vP 9 (.not (.s 8))])
 (.cond (.s 9) (.seq (.region [vP 10 (.bld [(.int .i64 0), (.int .i64 0)] []),
 ⟨none, none, .inl (.st 2 (.s 2) (.s 10))⟩,
 vP 3 (.mv (vi 62))])
 (.ret))
 (.skip)))
 (.seq (.region [vP 4 (.mv (vi 0))])
 (.seq (.seq (.region [vM 11 0,
 vP 12 (.len (.s 11)),
 vP 13 (.mv (vi 0))])
 (.block 0 (.loop k32l0)))
 (.seq (.region [vM 21 4,
 vM 22 0,
 vP 23 (.len (.s 22)),
 vN 24 26 [(.s 21), (.s 23)],
 vP 25 (.ex (.s 24) 0),
 vP 26 (.ex (.s 24) 1),
 ⟨none, none, .inl (.st 2 (.s 2) (.s 25))⟩,
 vM 3 26])
 (.ret)))))
def k33 : Cd :=
  .seq (.region [vP 2 (.alloc 36 [(.int .i64 0), (.int .i64 0)]),
 vP 3 (.mv (vi 0))])
 (.seq (.seq (.region [vM 5 0,
 vN 6 61 [(.s 5)],
 vP 7 (.not (.s 6))])
 (.cond (.s 7) (.seq (.region [vP 8 (.bld [(.int .i64 0), (.int .i64 0)] []),
 ⟨none, none, .inl (.st 2 (.s 2) (.s 8))⟩,
 vP 3 (.mv (vi 62))])
 (.ret))
 (.skip)))
 (.seq (.region [vM 9 0,
 vN 10 62 [(.s 9)],
 vP 4 (.alloc 36 [(.int .i64 0), (.int .i64 0)]),
 ⟨none, none, .inl (.st 2 (.s 4) (.s 10))⟩])
 (.seq (.region [vP 11 (.ld true 2 (.s 4)),
 ⟨none, none, .inl (.st 2 (.s 2) (.s 11))⟩,
 vP 3 (.mv (vi 0))])
 (.ret))))
def k34l0 : Cd :=
  .seq (.region [vP 24 (vb .lss 23 22)])
 (.seq (.cond (.s 24) (.skip)
 (.exit 0))
 (.seq (.block 1 (.seq (.region [vM 25 23,
 vM 7 25])
 (.seq (.region [vM 27 0,
 vM 28 7,
 vM 29 7,
 vM 30 1,
 vP 31 (vb .add 29 30),
 vP 32 (.slc 1 (.s 27) (some (.s 28)) (some (.s 31)) none),
 vN 33 32 [(.s 32)],
 vM 26 33,
 vP 34 (.ex (.s 26) 0),
 vP 35 (.ex (.s 26) 1),
 vP 8 (.alloc 36 [(.int .i64 0), (.int .i64 0)]),
 ⟨none, none, .inl (.st 2 (.s 8) (.s 34))⟩,
 vM 9 35])
 (.region [vM 36 6,
 vP 37 (.ld true 2 (.s 8)),
 vP 38 (.bs 36 2 1 [(.int .i64 0), (.int .i64 0)] [(0, (.s 37))]),
 vP 39 (.app 36 2 16 (.s 36) (.s 38)),
 vM 6 39]))))
 (.region [vP 40 (vc .add 23 1),
 vM 23 40])))
def k34 : Cd :=
  .seq (.region [vP 4 (.mv (.c (.slice none 0 0))),
 vP 5 (.mv (vi 0))])
 (.seq (.seq (.region [vM 10 0,
 vN 11 60 [(.s 10)],
 vP 12 (.not (.s 11))])
 (.cond (.s 12) (.seq (.region [vP 4 (.mv (.c (.slice none 0 0))),
 vP 5 (.mv (vi 62))])
 (.ret))
 (.skip)))
 (.seq (.seq (.region [vM 13 1,
 vM 14 0,
 vP 15 (.len (.s 14)),
 vN 16 53 [(.s 13), (vi 1), (.s 15)],
 vP 17 (.not (.s 16))])
 (.cond (.s 17) (.seq (.region [vP 4 (.mv (.c (.slice none 0 0))),
 vP 5 (.mv (vi 63))])
 (.ret))
 (.skip)))
 (.seq (.region [vP 6 (.mv (.c (.slice none 0 0)))])
 (.seq (.seq (.region [vM 18 0,
 vP 19 (.len (.s 18)),
 vM 20 1,
 vP 21 (vb .sub 19 20),
 vP 22 (vc .add 21 1),
 vP 23 (.mv (vi 0))])
 (.block 0 (.loop k34l0)))
 (.seq (.region [vM 41 6,
 vM 4 41,
 vP 5 (.mv (vi 0))])
 (.ret))))))
def k35l0 : Cd :=
  .seq (.seq (.region [vM 16 7,
 vM 17 1,
 vP 18 (vb .add 16 17),
 vM 19 0,
 vP 20 (.len (.s 19)),
 vP 21 (vb .leq 18 20)])
 (.cond (.s 21) (.skip)
 (.exit 0)))
 (.seq (.block 1 (.region [vM 24 6,
 vM 25 0,
 vM 26 7,
 vM 27 7,
 vM 28 1,
 vP 29 (vb .add 27 28),
 vP 30 (.slc 1 (.s 25) (some (.s 26)) (some (.s 29)) none),
 vN 31 62 [(.s 30)],
 vP 32 (.bs 36 2 1 [(.int .i64 0), (.int .i64 0)] [(0, (.s 31))]),
 vP 33 (.app 36 2 16 (.s 24) (.s 32)),
 vM 6 33]))
 (.region [vM 22 7,
 vP 23 (vc .add 22 1),
 vM 7 23]))
def k35 : Cd :=
  .seq (.region [vP 4 (.mv (.c (.slice none 0 0))),
 vP 5 (.mv (vi 0))])
 (.seq (.seq (.region [vM 8 0,
 vN 9 61 [(.s 8)],
 vP 10 (.not (.s 9))])
 (.cond (.s 10) (.seq (.region [vP 4 (.mv (.c (.slice none 0 0))),
 vP 5 (.mv (vi 62))])
 (.ret))
 (.skip)))
 (.seq (.seq (.region [vM 11 1,
 vM 12 0,
 vP 13 (.len (.s 12)),
 vN 14 55 [(.s 11), (vi 1), (.s 13)],
 vP 15 (.not (.s 14))])
 (.cond (.s 15) (.seq (.region [vP 4 (.mv (.c (.slice none 0 0))),
 vP 5 (.mv (vi 63))])
 (.ret))
 (.skip)))
 (.seq (.region [vP 6 (.mv (.c (.slice none 0 0)))])
 (.seq (.seq (.region [vP 7 (.mv (vi 0))])
 (.block 0 (.loop k35l0)))
 (.seq (.region [vM 34 6,
 vM 4 34,
 vP 5 (.mv (vi 0))])
 (.ret))))))
def k36 : Cd :=
  .seq (.region [vP 4 (.mv (vi 0)),
 vP 5 (.alloc 36 [(.int .i64 0), (.int .i64 0)]),
 vP 6 (.mv (vi 0))])
 (.seq (.region [vM 11 0,
 vM 12 1,
 vN 13 34 [(.s 11), (.s 12)],
 vM 10 13,
 vP 14 (.ex (.s 10) 0),
 vP 15 (.ex (.s 10) 1),
 vM 7 14,
 vM 8 15])
 (.seq (.seq (.region [vM 16 8,
 vP 17 (vc .neq 16 0)])
 (.cond (.s 17) (.seq (.region [vP 18 (.bld [(.int .i64 0), (.int .i64 0)] []),
 vM 19 8,
 vP 4 (.mv (vi 0)),
 ⟨none, none, .inl (.st 2 (.s 5) (.s 18))⟩,
 vM 6 19])
 (.ret))
 (.skip)))
 (.seq (.region [vM 20 7,
 vN 21 63 [(.s 20), (.f 30)],
 vP 9 (.alloc 36 [(.int .i64 0), (.int .i64 0)]),
 ⟨none, none, .inl (.st 2 (.s 9) (.s 21))⟩])
 (.seq (.draw [vD (vM 22 7) 0,
 vD (vP 23 (.ld true 2 (.s 9))) 0,
 vD (vN 24 64 [(.s 22), (.s 23)]) 3,
 vD (vP 25 (.ld true 2 (.s 9))) 0,
 vD (vM 4 24) 7,
 ⟨⟨none, none, .inl (.st 2 (.s 5) (.s 25))⟩, (some [.at 5]), [], 31, false⟩,
 vD (vP 6 (.mv (vi 0))) 63])
 (.ret)))))
def k37l0 : Cd :=
  .seq (.seq (.region [vM 21 10,
 vM 22 7,
 vP 23 (.len (.s 22)),
 vP 24 (vb .lss 21 23)])
 (.cond (.s 24) (.skip)
 (.exit 0)))
 (.seq (.block 1 (.seq (.draw [vD (vM 27 7) 0,
 vD (vM 28 10) 0,
 vD (vI 29 2 27 28) 3,
 vD (vP 30 (.ld true 2 (.s 29))) 7,
 vD (vM 31 7) 0,
 vD (vM 32 9) 0,
 vD (vI 33 2 31 32) 48,
 vD (vP 34 (.ld true 2 (.s 33))) 112,
 vD (vN 35 31 [(.s 30), (.s 34)]) 255,
 vD (vP 36 (vc .gtr 35 0)) 511])
 (.cond (.s 36) (.region [vM 37 10,
 vM 9 37])
 (.skip))))
 (.region [vM 25 10,
 vP 26 (vc .add 25 1),
 vM 10 26]))
def k37 : Cd :=
  .seq (.region [vP 4 (.mv (vi 0)),
 vP 5 (.alloc 36 [(.int .i64 0), (.int .i64 0)]),
 vP 6 (.mv (vi 0))])
 (.seq (.region [vM 12 0,
 vM 13 1,
 vN 14 35 [(.s 12), (.s 13)],
 vM 11 14,
 vP 15 (.ex (.s 11) 0),
 vP 16 (.ex (.s 11) 1),
 vM 7 15,
 vM 8 16])
 (.seq (.seq (.region [vM 17 8,
 vP 18 (vc .neq 17 0)])
 (.cond (.s 18) (.seq (.region [vP 19 (.bld [(.int .i64 0), (.int .i64 0)] []),
 vM 20 8,
 vP 4 (.mv (vi 0)),
 ⟨none, none, .inl (.st 2 (.s 5) (.s 19))⟩,
 vM 6 20])
 (.ret))
 (.skip)))
 (.seq (.region [vP 9 (.mv (vi 0))])
 (.seq (.seq (.region [vP 10 (.mv (vi 1))])
 (.block 0 (.loop k37l0)))
 (.seq (.draw [vD (vM 38 9) 0,
 vD (vM 39 7) 0,
 vD (vM 40 9) 0,
 vD (vI 41 2 39 40) 6,
 vD (vP 42 (.ld true 2 (.s 41))) 14,
 vD (vM 4 38) 1,
 ⟨⟨none, none, .inl (.st 2 (.s 5) (.s 42))⟩, (some [.at 5]), [], 63, false⟩,
 vD (vP 6 (.mv (vi 0))) 127])
 (.ret))))))
def k38l0 : Cd :=
  .seq (.seq (.region [vM 11 5,
 vM 12 0,
 vP 13 (.len (.s 12)),
 vP 14 (vb .lss 11 13)])
 (.cond (.s 14) (.skip)
 (.exit 0)))
 (.seq (.block 1 (.seq (.draw [vD (vM 17 0) 0,
 vD (vM 18 5) 0,
 vD (vI 19 2 17 18) 3,
 vD (vP 20 (.ld true 2 (.s 19))) 7,
 vD (vM 21 1) 0,
 vD (vM 22 5) 0,
 vD (vI 23 2 21 22) 48,
 vD (vP 24 (.ld true 2 (.s 23))) 112,
 vD (vP 25 (.eq true (.cells [.int, .int]) (.s 20) (.s 24))) 255])
 (.cond (.s 25) (.seq (.region [vP 4 (.mv (.c (.bool false)))])
 (.ret))
 (.skip))))
 (.region [vM 15 5,
 vP 16 (vc .add 15 1),
 vM 5 16]))
def k38 : Cd :=
  .seq (.region [vP 4 (.mv (.c (.bool false)))])
 (.seq (.seq (.region [vM 6 0,
 vP 7 (.len (.s 6)),
 vM 8 1,
 vP 9 (.len (.s 8)),
 vP 10 (vb .neq 7 9)])
 (.cond (.s 10) (.seq (.region [vP 4 (.mv (.c (.bool false)))])
 (.ret))
 (.skip)))
 (.seq (.seq (.region [vP 5 (.mv (vi 0))])
 (.block 0 (.loop k38l0)))
 (.seq (.region [vP 4 (.mv (.c (.bool true)))])
 (.ret))))
def k40l0 : Cd :=
  .region [vP 11 (.alloc 90 [(.int .i64 0), (.int .i64 0), (.int .i64 0)]),
 ⟨none, none, .inl (.st 3 (.s 11) (.s 15))⟩]
def k40l1 : Cd :=
  .block 1 (.seq (.seq (.region [vL 16 1 8,
 vF 17 11 0,
 vL 18 1 17,
 vP 19 (vb .lss 16 18),
 vM 20 19,
 vT 20 21 (.ld false 1 (.s 5)),
 vT 20 22 (.ld false 1 (.s 9)),
 vT 20 23 (vc .gtr 22 0),
 vT 20 24 (.ld false 1 (.s 10)),
 vT 20 25 (vc .gtr 24 0),
 ⟨some (20, true), some 26, .inr (.val true (.s 21) [(.s 23), (.s 25)])⟩,
 vP 27 (.pick (.s 20) (.s 26) (.c (.bool false)))])
 (.cond (.s 27) (.region [vL 28 1 7,
 vL 29 1 8,
 vF 30 11 0,
 vL 31 1 30,
 vP 32 (vc .sub 31 1),
 vP 33 (.bld [(.int .i64 0), (.int .i64 0)] [(0, 1, (.s 29)), (1, 1, (.s 32))]),
 vN 34 66 [(.s 28), (.s 33)],
 ⟨none, none, .inl (.st 1 (.s 7) (.s 34))⟩])
 (.skip)))
 (.draw [vD (vF 35 11 0) 0,
 vD (vL 36 1 35) 1,
 ⟨vL 37 1 9, some [], [.at 8], 0, false⟩,
 vD (vF 38 11 1) 0,
 ⟨vL 39 1 38, some [], [.at 8], 8, false⟩,
 vD (vP 40 (vb .add 37 39)) 28,
 ⟨vL 41 1 10, some [], [.at 8, .at 9], 0, false⟩,
 vD (vF 42 11 2) 0,
 ⟨vL 43 1 42, some [], [.at 8, .at 9], 128, false⟩,
 vD (vP 44 (vb .add 41 43)) 448,
 ⟨⟨none, none, .inl (.st 1 (.s 8) (.s 36))⟩, (some [.at 8]), [], 3, false⟩,
 ⟨⟨none, none, .inl (.st 1 (.s 9) (.s 40))⟩, (some [.at 9]), [], 1087, false⟩,
 ⟨⟨none, none, .inl (.st 1 (.s 10) (.s 44))⟩, (some [.at 10]), [], 4095, false⟩]))
def k40 : Cd :=
  .seq (.region [vP 5 (.box 57 1 (.s 2)),
 vP 6 (.mv (.c (.slice none 0 0)))])
 (.seq (.region [vP 7 (.alloc 22 [(.slice none 0 0)])])
 (.seq (.region [vP 8 (.alloc 3 [(.int .i64 0)]),
 vP 9 (.alloc 3 [(.int .i64 0)]),
 vP 10 (.alloc 3 [(.int .i64 0)]),
 ⟨none, none, .inl (.st 1 (.s 8) (.c (.int .i64 (-1000000000))))⟩,
 ⟨none, none, .inl (.st 1 (.s 9) (vi 0))⟩,
 ⟨none, none, .inl (.st 1 (.s 10) (vi 0))⟩])
 (.seq (.seq (.region [vM 12 0,
 vM 13 1,
 vN 14 65 [(.s 12), (.s 13)]])
 (.block 0 (.rangeF (.s 14) [15] k40l0 k40l1)))
 (.seq (.region [vL 45 1 7,
 vM 6 45])
 (.ret)))))
def k41 : Cd :=
  .seq (.region [vP 4 (.mv (.c (.bool false)))])
 (.seq (.region [vM 5 0,
 vM 4 5])
 (.ret))
def k46 : Cd :=
  .seq (.region [vP 4 (.mv (.c (.bool false)))])
 (.seq (.region [vM 5 0,
 vM 6 5,
 vT 6 7 (.mv (.s 1)),
 vT 6 8 (.not (.s 7)),
 vP 9 (.pick (.s 6) (.s 8) (.c (.bool false))),
 vM 4 9])
 (.ret))
def k47 : Cd :=
  .seq (.region [vP 3 (.box 65 2 (.s 0)),
 vP 4 (.box 67 5 (.s 1)),
 vP 6 (.mv (.c (.slice none 0 0))),
 vP 7 (.mv (vi 0))])
 (.seq (.region [vP 11 (.ld true 2 (.s 3)),
 vP 12 (.ld true 5 (.s 4)),
 vM 13 2,
 vN 14 67 [(.s 11), (.s 12), (.s 13)],
 vM 10 14,
 vP 15 (.ex (.s 10) 0),
 vP 16 (.ex (.s 10) 1),
 vM 8 15,
 vM 9 16])
 (.seq (.region [vM 17 8,
 vF 18 4 3,
 vL 19 1 18,
 vF 20 4 4,
 vL 21 1 20,
 vN 22 24 [(.s 17), (.s 19), (.s 21)],
 vM 23 9,
 vM 6 22,
 vM 7 23])
 (.ret)))
def k48 : Cd :=
  .seq (.region [vP 3 (.box 65 2 (.s 0)),
 vP 4 (.box 67 5 (.s 1)),
 vP 5 (.box 67 5 (.s 2)),
 vP 6 (.alloc 71 [(.bool false), (.bool false), (.bool false)]),
 vP 7 (.mv (vi 0))])
 (.seq (.region [vP 11 (.ld true 2 (.s 3)),
 vP 12 (.ld true 5 (.s 4)),
 vP 13 (.ld true 5 (.s 5)),
 vN 14 68 [(.s 11), (.s 12), (.s 13)],
 vM 10 14,
 vP 15 (.ex (.s 10) 0),
 vP 16 (.ex (.s 10) 1),
 vM 8 15,
 vM 9 16])
 (.seq (.seq (.region [vM 17 9,
 vP 18 (vc .neq 17 0)])
 (.cond (.s 18) (.seq (.region [vP 19 (.bld [(.bool false), (.bool false), (.bool false)] []),
 vM 20 9,
 ⟨none, none, .inl (.st 3 (.s 6) (.s 19))⟩,
 vM 7 20])
 (.ret))
 (.skip)))
 (.seq (.draw [vD (vM 21 8) 0,
 vD (vP 22 (.ias 2 (.s 21) (vi 0))) 1,
 vD (vF 23 22 0) 3,
 vD (vL 24 1 23) 7,
 vD (vP 25 (vc .lss 24 0)) 15,
 vD (vM 26 8) 0,
 vD (vN 27 22 [(.s 26), (vi 0)]) 32,
 vD (vM 28 8) 0,
 vD (vM 29 8) 0,
 vD (vP 30 (.len (.s 29))) 256,
 vD (vP 31 (vc .sub 30 1)) 768,
 vD (vI 32 2 28 31) 1920,
 vD (vF 33 32 1) 3968,
 vD (vL 34 1 33) 8064,
 vD (vP 35 (vc .gtr 34 0)) 16256,
 vD (vP 36 (.bld [(.bool false), (.bool false), (.bool false)] [(0, 1, (.s 25)), (1, 1, (.s 27)), (2, 1, (.s 35))])) 32767,
 ⟨⟨none, none, .inl (.st 3 (.s 6) (.s 36))⟩, (some [.at 6]), [], 65535, false⟩,
 vD (vP 7 (.mv (vi 0))) 131071])
 (.ret))))
def k49l0 : Cd :=
  .region [vM 16 52]
def k49l1 : Cd :=
  .block 3 (.seq (.region [vM 53 16,
 vN 54 74 [(.s 53)],
 vM 17 54])
 (.seq (.draw [vD (vL 55 1 8) 0,
 vD (vM 56 17) 0,
 vD (vP 57 (.mm false (.s 55) (.s 56))) 3,
 ⟨vL 58 1 9, some [], [.at 8], 0, false⟩,
 vD (vM 59 17) 0,
 vD (vP 60 (.mm true (.s 58) (.s 59))) 24,
 ⟨⟨none, none, .inl (.st 1 (.s 8) (.s 57))⟩, (some [.at 8]), [], 7, false⟩,
 ⟨⟨none, none, .inl (.st 1 (.s 9) (.s 60))⟩, (some [.at 9]), [], 127, false⟩])
 (.seq (.region [vL 61 1 8,
 vP 62 (vc .eql 61 0),
 vM 63 62,
 vT 63 64 (.ld false 1 (.s 9)),
 vT 63 65 (.ld false 1 (.s 5)),
 vT 63 66 (.len (.s 65)),
 vT 63 67 (vb .eql 64 66),
 vP 68 (.pick (.s 63) (.s 67) (.c (.bool false)))])
 (.cond (.s 68) (.exit 0)
 (.skip)))))
def k49l2 : Cd :=
  .seq (.region [vP 44 (vb .lss 43 42)])
 (.seq (.cond (.s 44) (.skip)
 (.exit 0))
 (.seq (.block 1 (.seq (.region [vI 45 1 41 43,
 vL 46 1 45,
 vM 15 46])
 (.seq (.region [vP 47 (.ld true 5 (.s 12)),
 vM 48 15,
 vN 49 72 [(.s 47), (.s 48)],
 vM 50 13,
 vN 51 73 [(.s 49), (.s 50)]])
 (.block 2 (.rangeF (.s 51) [52] k49l0 k49l1)))))
 (.region [vP 69 (vc .add 43 1),
 vM 43 69])))
def k49 : Cd :=
  .seq (.region [vP 4 (.box 65 2 (.s 0)),
 vP 5 (.box 76 1 (.s 1)),
 vP 7 (.box 55 2 (.s 3)),
 vP 8 (.alloc 3 [(.int .i64 0)]),
 vP 9 (.alloc 3 [(.int .i64 0)]),
 vP 10 (.mv (vi 0))])
  (.scope (.seq (.seq (.region [vL 18 1 5,
 vP 19 (.ld true 2 (.s 7)),
 vN 20 69 [(.s 18), (.s 19)],
 vM 11 20])
 (.seq (.region [vM 21 11,
 vP 22 (vc .neq 21 0)])
 (.cond (.s 22) (.seq (.region [vM 23 11,
 ⟨none, none, .inl (.st 1 (.s 8) (vi 0))⟩,
 ⟨none, none, .inl (.st 1 (.s 9) (vi 0))⟩,
 vM 10 23])
 (.ret))
 (.skip))))
 (.seq (.region [vP 25 (.ld true 2 (.s 4)),
 vL 26 1 5,
 vM 27 2,
 vN 28 70 [(.s 25), (.s 26), (.s 27)],
 vM 24 28,
 vP 29 (.ex (.s 24) 0),
 vP 30 (.ex (.s 24) 1),
 vP 12 (.alloc 95 [(.slice none 0 0), (.slice none 0 0), (.slice none 0 0), (.int .i64 0), (.slice none 0 0)]),
 ⟨none, none, .inl (.st 5 (.s 12) (.s 29))⟩,
 vM 10 30])
 (.seq (.seq (.region [vM 31 10,
 vP 32 (vc .neq 31 0)])
 (.cond (.s 32) (.seq (.region [vM 33 10,
 ⟨none, none, .inl (.st 1 (.s 8) (vi 0))⟩,
 ⟨none, none, .inl (.st 1 (.s 9) (vi 0))⟩,
 vM 10 33])
 (.ret))
 (.skip)))
 (.seq (.region [vP 34 (.ld true 5 (.s 12)),
 vL 35 1 5,
 vP 36 (.ld true 2 (.s 7)),
 vN 37 71 [(.s 34), (.s 35), (.s 36)],
 vM 13 37])
 (.seq (.region [vL 38 1 5,
 vP 39 (.len (.s 38)),
 ⟨none, none, .inl (.st 1 (.s 8) (.s 39))⟩])
 (.seq (.skip)
 (.seq (.seq (.region [vF 40 12 4,
 vL 41 1 40,
 vP 42 (.len (.s 41)),
 vP 43 (.mv (vi 0))])
 (.block 0 (.loop k49l2)))
 (.seq (.draw [vD (vL 70 1 8) 0,
 ⟨vL 71 1 9, some [], [.at 8], 0, false⟩,
 ⟨⟨none, none, .inl (.st 1 (.s 8) (.s 70))⟩, (some [.at 8]), [], 1, false⟩,
 ⟨⟨none, none, .inl (.st 1 (.s 9) (.s 71))⟩, (some [.at 9]), [], 7, false⟩,
 vD (vP 10 (.mv (vi 0))) 15])
 (.ret))))))))))
def k50 : Cd :=
  .seq (.region [vP 4 (.mv (.c (.bool false)))])
 (.seq (.region [vM 5 0,
 vM 6 1,
 vN 7 75 [(.s 5), (.s 6)],
 vP 8 (vc .geq 7 0),
 vM 4 8])
 (.ret))
def k51l0 : Cd :=
  .seq (.region [vP 9 (vb .lss 8 7)])
 (.seq (.cond (.s 9) (.skip)
 (.exit 0))
 (.seq (.block 1 (.seq (.region [vI 10 2 6 8,
 vP 11 (.ld true 2 (.s 10)),
 vP 5 (.alloc 55 [(.int .i64 0), (.int .i64 0)]),
 ⟨none, none, .inl (.st 2 (.s 5) (.s 11))⟩])
 (.seq (.region [vF 12 5 0,
 vL 13 1 12,
 vP 14 (.mm true (.s 13) (.c (.int .i64 (-1000000000)))),
 vF 15 5 1,
 vL 16 1 15,
 vP 17 (.mm false (.s 16) (vi 1000000000)),
 vP 18 (.bld [(.int .i64 0), (.int .i64 0)] [(0, 1, (.s 14)), (1, 1, (.s 17))]),
 ⟨none, none, .inl (.st 2 (.s 5) (.s 18))⟩])
 (.seq (.region [vF 19 5 0,
 vL 20 1 19,
 vF 21 5 1,
 vL 22 1 21,
 vP 23 (vb .leq 20 22)])
 (.cond (.s 23) (.region [vM 24 3,
 vP 25 (.ld true 2 (.s 5)),
 vP 26 (.bs 55 2 1 [(.int .i64 0), (.int .i64 0)] [(0, (.s 25))]),
 vP 27 (.app 55 2 16 (.s 24) (.s 26)),
 vM 3 27])
 (.skip))))))
 (.region [vP 28 (vc .add 8 1),
 vM 8 28])))
def k51 : Cd :=
  .seq (.region [vP 2 (.mv (.c (.slice none 0 0)))])
 (.seq (.region [vP 3 (.mv (.c (.slice none 0 0)))])
 (.seq (.seq (.region [vM 6 0,
 vP 7 (.len (.s 6)),
 vP 8 (.mv (vi 0))])
 (.block 0 (.loop k51l0)))
 (.seq (.region [vM 29 3,
 vM 2 29])
 (.ret))))
def k52 : Cd :=
  .seq (.region [vP 2 (.box 55 2 (.s 0)),
 vP 3 (.mv (.c (.bool false)))])
 (.seq (.region [vL 4 1 1,
 vF 5 2 0,
 vL 6 1 5,
 vF 7 2 1,
 vL 8 1 7,
 vN 9 53 [(.s 4), (.s 6), (.s 8)],
 vM 3 9])
 (.ret))
def k53 : Cd :=
  .seq (.region [vP 6 (.mv (.c (.bool false)))])
 (.seq (.region [vM 7 1,
 vM 8 0,
 vP 9 (vb .leq 7 8),
 vM 10 9,
 vT 10 11 (.mv (.s 0)),
 vT 10 12 (.mv (.s 2)),
 vT 10 13 (vb .leq 11 12),
 vP 14 (.pick (.s 10) (.s 13) (.c (.bool false))),
 vM 6 14])
 (.ret))
def k54l0 : Cd :=
  .seq (.seq (.region [vM 5 1,
 vP 6 (vc .neq 5 0)])
 (.cond (.s 6) (.skip)
 (.exit 0)))
 (.block 1 (.draw [vD (vM 7 1) 0,
 vD (vM 8 0) 0,
 vD (vM 9 1) 0,
 vD (vP 10 (vb .rem 8 9)) 6,
 vD (vM 0 7) 3,
 vD (vM 1 10) 31]))
def k54 : Cd :=
  .seq (.region [vP 4 (.mv (vi 0))])
 (.seq (.block 0 (.loop k54l0))
 (.seq (.region [vM 11 0,
 vM 12 0,
 vP 13 (.neg (.s 12)),
 vP 14 (.mm true (.s 11) (.s 13)),
 vM 4 14])
 (.ret)))
def k55 : Cd :=
  .seq (.region [vP 6 (.mv (.c (.bool false)))])
 (.seq (.region [vM 7 1,
 vM 8 0,
 vP 9 (vb .leq 7 8),
 vM 10 9,
 vT 10 11 (.mv (.s 0)),
 vT 10 12 (.mv (.s 2)),
 vT 10 13 (vb .leq 11 12),
 vP 14 (.pick (.s 10) (.s 13) (.c (.bool false))),
 vM 6 14])
 (.ret))
def k56l0 : Cd :=
  .seq (.seq (.region [vM 6 1,
 vP 7 (vc .gtr 6 0)])
 (.cond (.s 7) (.skip)
 (.exit 0)))
 (.block 1 (.seq (.region [vM 8 0,
 vM 9 1,
 vP 10 (vb .rem 8 9),
 vM 5 10])
 (.seq (.region [vM 11 1,
 vM 0 11])
 (.region [vM 12 5,
 vM 1 12]))))
def k56 : Cd :=
  .seq (.region [vP 4 (.mv (vi 0))])
 (.seq (.block 0 (.loop k56l0))
 (.seq (.region [vM 13 0,
 vM 4 13])
 (.ret)))
def k57 : Cd :=
  .seq (.region [vP 1 (.box 36 2 (.s 0)),
 vP 2 (.mv (.c (.bool false)))])
 (.seq (.region [vF 3 1 0,
 vL 4 1 3,
 vN 5 53 [(.s 4), (.c (.int .i64 (-1000000000))), (vi 1000000000)],
 vM 6 5,
 vT 6 7 (.fa (.s 1) 1),
 vT 6 8 (.ld false 1 (.s 7)),
 ⟨some (6, true), some 9, .inr (.fn 53 [(.s 8), (vi 1), (vi 1000000000)])⟩,
 vP 10 (.pick (.s 6) (.s 9) (.c (.bool false))),
 vM 2 10])
 (.ret))
def k58 : Cd :=
  .seq (.region [vP 4 (.mv (vi 0))])
 (.seq (.region [vM 7 0,
 vN 8 76 [(.s 7)],
 vM 5 8])
 (.seq (.region [vM 9 1,
 vN 10 76 [(.s 9)],
 vM 6 10])
 (.seq (.seq (.region [vM 11 5])
 (.cond (.s 11) (.seq (.seq (.region [vM 12 6])
 (.cond (.s 12) (.seq (.region [vP 4 (.mv (vi 0))])
 (.ret))
 (.skip)))
 (.seq (.region [vP 4 (.mv (.c (.int .i64 (-1))))])
 (.ret)))
 (.skip)))
 (.seq (.seq (.region [vM 13 6])
 (.cond (.s 13) (.seq (.region [vP 4 (.mv (vi 1))])
 (.ret))
 (.skip)))
 (.seq (.seq (.region [vM 14 0,
 vM 15 1,
 vP 16 (vb .lss 14 15)])
 (.cond (.s 16) (.seq (.region [vP 4 (.mv (.c (.int .i64 (-1))))])
 (.ret))
 (.skip)))
 (.seq (.seq (.region [vM 17 0,
 vM 18 1,
 vP 19 (vb .gtr 17 18)])
 (.cond (.s 19) (.seq (.region [vP 4 (.mv (vi 1))])
 (.ret))
 (.skip)))
 (.seq (.region [vP 4 (.mv (vi 0))])
 (.ret))))))))
def k59 : Cd :=
  .seq (.region [vP 1 (.box 36 2 (.s 0)),
 vP 2 (.mv (.c (.bool false)))])
 (.seq (.region [vF 3 1 0,
 vL 4 1 3,
 vN 5 55 [(.s 4), (.c (.int .i64 (-1000000000))), (vi 1000000000)],
 vM 6 5,
 vT 6 7 (.fa (.s 1) 1),
 vT 6 8 (.ld false 1 (.s 7)),
 ⟨some (6, true), some 9, .inr (.fn 55 [(.s 8), (vi 1), (vi 1000000000)])⟩,
 vP 10 (.pick (.s 6) (.s 9) (.c (.bool false))),
 vM 2 10])
 (.ret))
def k60 : Cd :=
  .seq (.region [vP 2 (.mv (.c (.bool false)))])
 (.seq (.region [vM 3 0,
 vP 4 (.len (.s 3)),
 vN 5 53 [(.s 4), (vi 1), (vi 400)],
 vM 6 5,
 vT 6 7 (.mv (.s 0)),
 ⟨some (6, true), some 8, .inr (.fn 77 [(.s 7), (.f 78)])⟩,
 vT 6 9 (.not (.s 8)),
 vP 10 (.pick (.s 6) (.s 9) (.c (.bool false))),
 vM 2 10])
 (.ret))
def k61l0 : Cd :=
  .seq (.seq (.region [vM 4 3,
 vM 5 0,
 vP 6 (.len (.s 5)),
 vP 7 (vb .lss 4 6)])
 (.cond (.s 7) (.skip)
 (.exit 0)))
 (.seq (.block 1 (.seq (.region [vM 10 0,
 vM 11 3,
 vI 12 1 10 11,
 vL 13 1 12,
 vN 14 55 [(.s 13), (vi 0), (vi 200000)],
 vP 15 (.not (.s 14))])
 (.cond (.s 15) (.seq (.region [vP 2 (.mv (.c (.bool false)))])
 (.ret))
 (.skip))))
 (.region [vM 8 3,
 vP 9 (vc .add 8 1),
 vM 3 9]))
def k61 : Cd :=
  .seq (.region [vP 2 (.mv (.c (.bool false)))])
 (.seq (.seq (.region [vP 3 (.mv (vi 0))])
 (.block 0 (.loop k61l0)))
 (.seq (.region [vM 16 0,
 vP 17 (.len (.s 16)),
 vN 18 55 [(.s 17), (vi 1), (vi 400)],
 vM 2 18])
 (.ret)))
def k62l0 : Cd :=
  .seq (.seq (.region [vM 7 4,
 vM 8 0,
 vP 9 (.len (.s 8)),
 vP 10 (vb .lss 7 9)])
 (.cond (.s 10) (.skip)
 (.exit 0)))
 (.seq (.block 1 (.region [vM 13 3,
 vM 14 0,
 vM 15 4,
 vI 16 1 14 15,
 vL 17 1 16,
 vP 18 (vb .add 13 17),
 vM 3 18]))
 (.region [vM 11 4,
 vP 12 (vc .add 11 1),
 vM 4 12]))
def k62 : Cd :=
  .seq (.region [vP 2 (.alloc 36 [(.int .i64 0), (.int .i64 0)])])
 (.seq (.region [vP 3 (.mv (vi 0))])
 (.seq (.seq (.region [vP 4 (.mv (vi 0))])
 (.block 0 (.loop k62l0)))
 (.seq (.region [vM 20 3,
 vM 21 0,
 vP 22 (.len (.s 21)),
 vN 23 27 [(.s 20), (.s 22)],
 vM 19 23,
 vP 24 (.ex (.s 19) 0),
 vP 25 (.ex (.s 19) 1),
 vP 5 (.alloc 36 [(.int .i64 0), (.int .i64 0)]),
 ⟨none, none, .inl (.st 2 (.s 5) (.s 24))⟩,
 vM 6 25])
 (.seq (.region [vP 26 (.ld true 2 (.s 5)),
 ⟨none, none, .inl (.st 2 (.s 2) (.s 26))⟩])
 (.ret)))))
def k63l0 : Cd :=
  .seq (.seq (.region [vM 14 6,
 vM 15 0,
 vP 16 (.len (.s 15)),
 vP 17 (vb .lss 14 16)])
 (.cond (.s 17) (.skip)
 (.exit 0)))
 (.seq (.block 1 (.seq (.draw [vD (vM 20 1) 0,
 vD (vM 21 0) 0,
 vD (vM 22 6) 0,
 vD (vI 23 2 21 22) 6,
 vD (vP 24 (.ld true 2 (.s 23))) 14,
 vD (vP 25 (.ld true 2 (.s 5))) 0,
 ⟨⟨none, some 26, .inr (.val false (.s 20) [(.s 24), (.s 25)])⟩, some [], [], 63, false⟩,
 vD (vP 27 (vc .gtr 26 0)) 127])
 (.cond (.s 27) (.region [vM 28 0,
 vM 29 6,
 vI 30 2 28 29,
 vP 31 (.ld true 2 (.s 30)),
 ⟨none, none, .inl (.st 2 (.s 5) (.s 31))⟩])
 (.skip))))
 (.region [vM 18 6,
 vP 19 (vc .add 18 1),
 vM 6 19]))
def k63 : Cd :=
  .seq (.region [vP 4 (.alloc 36 [(.int .i64 0), (.int .i64 0)])])
 (.seq (.seq (.region [vM 7 0,
 vP 8 (.len (.s 7)),
 vP 9 (vc .lss 8 1)])
 (.cond (.s 9) (.region [⟨none, some 10, .inl (.mki 9 (.c (.string ⟨#[115, 108, 105, 99, 101, 115, 46, 77, 97, 120, 70, 117, 110, 99, 58, 32, 101, 109, 112, 116, 121, 32, 108, 105, 115, 116]⟩)))⟩,
 ⟨none, none, .inr (.pan (.s 10))⟩])
 (.skip)))
 (.seq (.region [vM 11 0,
 vP 12 (.ias 2 (.s 11) (vi 0)),
 vP 13 (.ld true 2 (.s 12)),
 vP 5 (.alloc 36 [(.int .i64 0), (.int .i64 0)]),
 ⟨none, none, .inl (.st 2 (.s 5) (.s 13))⟩])
 (.seq (.seq (.region [vP 6 (.mv (vi 1))])
 (.block 0 (.loop k63l0)))
 (.seq (.region [vP 32 (.ld true 2 (.s 5)),
 ⟨none, none, .inl (.st 2 (.s 4) (.s 32))⟩])
 (.ret)))))
def k64l0 : Cd :=
  .seq (.region [vP 9 (vb .lss 8 7)])
 (.seq (.cond (.s 9) (.skip)
 (.exit 0))
 (.seq (.block 1 (.seq (.region [vM 10 8,
 vM 5 10])
 (.seq (.draw [vD (vP 11 (.ld true 2 (.s 3))) 0,
 vD (vM 12 0) 0,
 vD (vM 13 5) 0,
 vD (vI 14 2 12 13) 6,
 vD (vP 15 (.ld true 2 (.s 14))) 14,
 vD (vP 16 (.eq false (.cells [.int, .int]) (.s 11) (.s 15))) 31])
 (.cond (.s 16) (.seq (.region [vM 17 5,
 vM 4 17])
 (.ret))
 (.skip)))))
 (.region [vP 18 (vc .add 8 1),
 vM 8 18])))
def k64 : Cd :=
  .seq (.region [vP 3 (.box 36 2 (.s 1)),
 vP 4 (.mv (vi 0))])
 (.seq (.seq (.region [vM 6 0,
 vP 7 (.len (.s 6)),
 vP 8 (.mv (vi 0))])
 (.block 0 (.loop k64l0)))
 (.seq (.region [vP 4 (.mv (.c (.int .i64 (-1))))])
 (.ret)))
def k65l0 : Cd :=
  .seq (.region [vP 14 (vb .lss 13 12)])
 (.seq (.cond (.s 14) (.skip)
 (.exit 0))
 (.seq (.block 1 (.seq (.region [vI 15 2 11 13,
 vP 16 (.ld true 2 (.s 15)),
 vP 7 (.alloc 55 [(.int .i64 0), (.int .i64 0)]),
 ⟨none, none, .inl (.st 2 (.s 7) (.s 16))⟩])
 (.region [vM 17 5,
 vF 18 7 0,
 vL 19 1 18,
 vP 20 (.bld [(.int .i64 0), (.int .i64 0), (.int .i64 0)] [(0, 1, (.s 19)), (1, 1, (vi 1)), (2, 1, (vi 0))]),
 vF 21 7 1,
 vL 22 1 21,
 vP 23 (vc .add 22 1),
 vP 24 (.bld [(.int .i64 0), (.int .i64 0), (.int .i64 0)] [(0, 1, (.s 23)), (1, 1, (.c (.int .i64 (-1)))), (2, 1, (vi 0))]),
 vP 25 (.bs 90 3 2 [(.int .i64 0), (.int .i64 0), (.int .i64 0)] [(0, (.s 20)), (1, (.s 24))]),
 vP 26 (.app 90 3 24 (.s 17) (.s 25)),
 vM 5 26])))
 (.region [vP 27 (vc .add 13 1),
 vM 13 27])))
def k65l1 : Cd :=
  .seq (.region [vP 32 (vb .lss 31 30)])
 (.seq (.cond (.s 32) (.skip)
 (.exit 2))
 (.seq (.block 3 (.seq (.region [vI 33 2 29 31,
 vP 34 (.ld true 2 (.s 33)),
 vP 9 (.alloc 55 [(.int .i64 0), (.int .i64 0)]),
 ⟨none, none, .inl (.st 2 (.s 9) (.s 34))⟩])
 (.region [vM 35 5,
 vF 36 9 0,
 vL 37 1 36,
 vP 38 (.bld [(.int .i64 0), (.int .i64 0), (.int .i64 0)] [(0, 1, (.s 37)), (1, 1, (vi 0)), (2, 1, (vi 1))]),
 vF 39 9 1,
 vL 40 1 39,
 vP 41 (vc .add 40 1),
 vP 42 (.bld [(.int .i64 0), (.int .i64 0), (.int .i64 0)] [(0, 1, (.s 41)), (1, 1, (vi 0)), (2, 1, (.c (.int .i64 (-1))))]),
 vP 43 (.bs 90 3 2 [(.int .i64 0), (.int .i64 0), (.int .i64 0)] [(0, (.s 38)), (1, (.s 42))]),
 vP 44 (.app 90 3 24 (.s 35) (.s 43)),
 vM 5 44])))
 (.region [vP 45 (vc .add 31 1),
 vM 31 45])))
def k65 : Cd :=
  .seq (.region [vP 4 (.mv (.c .nilFunc))])
 (.seq (.region [vP 5 (.mv (.c (.slice none 0 0)))])
 (.seq (.seq (.region [vM 10 0,
 vN 11 51 [(.s 10)],
 vP 12 (.len (.s 11)),
 vP 13 (.mv (vi 0))])
 (.block 0 (.loop k65l0)))
 (.seq (.seq (.region [vM 28 1,
 vN 29 51 [(.s 28)],
 vP 30 (.len (.s 29)),
 vP 31 (.mv (vi 0))])
 (.block 2 (.loop k65l1)))
 (.seq (.region [vM 46 5,
 vN 47 79 [(.s 46), (.f 80)]])
 (.seq (.region [vM 48 5,
 vN 49 81 [(.s 48)],
 vM 4 49])
 (.ret))))))
def k66 : Cd :=
  .seq (.region [vP 3 (.box 55 2 (.s 1)),
 vP 4 (.mv (.c (.slice none 0 0)))])
 (.seq (.seq (.region [vM 6 0,
 vP 7 (.len (.s 6)),
 vP 8 (vc .sub 7 1),
 vM 5 8])
 (.seq (.draw [vD (vM 9 5) 0,
 vD (vP 10 (vc .geq 9 0)) 1,
 vD (vM 11 10) 3,
 vD (vT 11 12 (.mv (.s 0))) 7,
 vD (vT 11 13 (.mv (.s 5))) 7,
 vD (vT 11 14 (.ias 2 (.s 12) (.s 13))) 31,
 vD (vT 11 15 (.fa (.s 14) 1)) 63,
 vD (vT 11 16 (.ld false 1 (.s 15))) 127,
 vD (vT 11 17 (vc .add 16 1)) 255,
 vD (vT 11 18 (.fa (.s 3) 0)) 7,
 vD (vT 11 19 (.ld false 1 (.s 18))) 519,
 vD (vT 11 20 (vb .eql 17 19)) 2047,
 vD (vP 21 (.pick (.s 11) (.s 20) (.c (.bool false)))) 4095])
 (.cond (.s 21) (.seq (.region [vM 22 0,
 vM 23 5,
 vF 24 3 1,
 vL 25 1 24,
 vI 26 2 22 23,
 vF 27 26 1,
 ⟨none, none, .inl (.st 1 (.s 27) (.s 25))⟩])
 (.seq (.region [vM 28 0,
 vM 4 28])
 (.ret)))
 (.skip))))
 (.seq (.region [vM 29 0,
 vP 30 (.ld true 2 (.s 3)),
 vP 31 (.bs 55 2 1 [(.int .i64 0), (.int .i64 0)] [(0, (.s 30))]),
 vP 32 (.app 55 2 16 (.s 29) (.s 31)),
 vM 4 32])
 (.ret)))
def k67 : Cd :=
  .seq (.region [vP 3 (.box 65 2 (.s 0)),
 vP 4 (.box 67 5 (.s 1)),
 vP 6 (.mv (.c (.slice none 0 0))),
 vP 7 (.mv (vi 0))])
 (.seq (.seq (.region [vP 9 (.ld true 5 (.s 4)),
 vN 10 82 [(.s 9)],
 vM 8 10])
 (.seq (.region [vM 11 8,
 vP 12 (vc .neq 11 0)])
 (.cond (.s 12) (.seq (.region [vM 13 8,
 vP 6 (.mv (.c (.slice none 0 0))),
 vM 7 13])
 (.ret))
 (.skip))))
 (.seq (.region [vP 14 (.ld true 2 (.s 3)),
 vM 15 2,
 vF 16 4 2,
 vL 17 1 16,
 vN 18 83 [(.s 14), (.s 15), (.s 17)],
 vP 19 (.ex (.s 18) 0),
 vP 20 (.ex (.s 18) 1),
 vM 6 19,
 vM 7 20])
 (.ret)))
def k68 : Cd :=
  .seq (.region [vP 3 (.box 65 2 (.s 0)),
 vP 4 (.box 67 5 (.s 1)),
 vP 5 (.box 67 5 (.s 2)),
 vP 6 (.mv (.c (.slice none 0 0))),
 vP 7 (.mv (vi 0))])
 (.seq (.seq (.region [vP 11 (.ld true 5 (.s 4)),
 vN 12 82 [(.s 11)],
 vM 8 12])
 (.seq (.region [vM 13 8,
 vP 14 (vc .neq 13 0)])
 (.cond (.s 14) (.seq (.region [vM 15 8,
 vP 6 (.mv (.c (.slice none 0 0))),
 vM 7 15])
 (.ret))
 (.skip))))
 (.seq (.region [vP 17 (.ld true 2 (.s 3)),
 vP 18 (.ld true 5 (.s 5)),
 vF 19 4 2,
 vL 20 1 19,
 vN 21 67 [(.s 17), (.s 18), (.s 20)],
 vM 16 21,
 vP 22 (.ex (.s 16) 0),
 vP 23 (.ex (.s 16) 1),
 vM 9 22,
 vM 10 23])
 (.seq (.region [vM 24 9,
 vF 25 5 3,
 vL 26 1 25,
 vF 27 4 4,
 vL 28 1 27,
 vP 29 (vb .sub 26 28),
 vF 30 5 4,
 vL 31 1 30,
 vF 32 4 3,
 vL 33 1 32,
 vP 34 (vb .sub 31 33),
 vN 35 24 [(.s 24), (.s 29), (.s 34)],
 vM 36 10,
 vM 6 35,
 vM 7 36])
 (.ret))))
def k69l0 : Cd :=
  .seq (.region [vP 14 (vb .lss 13 12)])
 (.seq (.cond (.s 14) (.skip)
 (.exit 0))
 (.seq (.block 1 (.seq (.region [vI 15 5 11 13,
 vP 16 (.ld true 5 (.s 15)),
 vP 6 (.alloc 67 [(.int .i64 0), (.int .i64 0), (.int .i64 0), (.int .i64 0), (.int .i64 0)]),
 ⟨none, none, .inl (.st 5 (.s 6) (.s 16))⟩])
 (.seq (.region [vP 17 (.ld true 5 (.s 6)),
 vN 18 82 [(.s 17)],
 vM 7 18])
 (.seq (.region [vM 19 7,
 vP 20 (vc .neq 19 0)])
 (.cond (.s 20) (.seq (.region [vM 21 7,
 vM 4 21])
 (.ret))
 (.skip))))))
 (.region [vP 22 (vc .add 13 1),
 vM 13 22])))
def k69 : Cd :=
  .seq (.region [vP 3 (.box 55 2 (.s 1)),
 vP 4 (.mv (vi 0))])
 (.seq (.seq (.region [vM 8 0,
 vP 9 (.len (.s 8)),
 vP 10 (vc .gtr 9 8)])
 (.cond (.s 10) (.seq (.region [vP 4 (.mv (vi 2))])
 (.ret))
 (.skip)))
 (.seq (.seq (.region [vM 11 0,
 vP 12 (.len (.s 11)),
 vP 13 (.mv (vi 0))])
 (.block 0 (.loop k69l0)))
 (.seq (.seq (.region [vF 23 3 0,
 vL 24 1 23,
 vP 25 (.bin .lss (.s 24) (.c (.int .i64 (-100000)))),
 vM 26 25,
 vU 26 27 (.fa (.s 3) 0),
 vU 26 28 (.ld false 1 (.s 27)),
 vU 26 29 (.fa (.s 3) 1),
 vU 26 30 (.ld false 1 (.s 29)),
 vU 26 31 (vb .gtr 28 30),
 vP 32 (.pick (.s 26) (.c (.bool true)) (.s 31)),
 vM 33 32,
 vU 33 34 (.fa (.s 3) 1),
 vU 33 35 (.ld false 1 (.s 34)),
 vU 33 36 (vc .gtr 35 100000),
 vP 37 (.pick (.s 33) (.c (.bool true)) (.s 36))])
 (.cond (.s 37) (.seq (.region [vP 4 (.mv (vi 60))])
 (.ret))
 (.skip)))
 (.seq (.region [vP 4 (.mv (vi 0))])
 (.ret)))))
def k70 : Cd :=
  .seq (.region [vP 3 (.box 65 2 (.s 0)),
 vP 6 (.alloc 95 [(.slice none 0 0), (.slice none 0 0), (.slice none 0 0), (.int .i64 0), (.slice none 0 0)]),
 vP 7 (.mv (vi 0))])
 (.seq (.seq (.region [vP 13 (.ld true 2 (.s 3)),
 vN 14 84 [(.s 13)],
 vM 8 14])
 (.seq (.region [vM 15 8,
 vP 16 (vc .neq 15 0)])
 (.cond (.s 16) (.seq (.region [vP 17 (.bld [(.slice none 0 0), (.slice none 0 0), (.slice none 0 0), (.int .i64 0), (.slice none 0 0)] []),
 vM 18 8,
 ⟨none, none, .inl (.st 5 (.s 6) (.s 17))⟩,
 vM 7 18])
 (.ret))
 (.skip))))
 (.seq (.region [vP 19 (.ld true 2 (.s 3)),
 vN 20 85 [(.s 19)],
 vP 9 (.alloc 44 [(.slice none 0 0)]),
 ⟨none, none, .inl (.st 1 (.s 9) (.s 20))⟩])
 (.seq (.region [vP 21 (.mkf (.func 86) [] [(.s 9)]),
 vP 10 (.alloc 109 [.nilFunc]),
 ⟨none, none, .inl (.st 1 (.s 10) (.s 21))⟩])
 (.seq (.seq (.region [vL 22 1 10,
 vM 23 2,
 ⟨none, some 24, .inr (.val false (.s 22) [(.s 23)])⟩,
 vM 25 24,
 vU 25 26 (.mv (.s 1)),
 vU 25 27 (.mkf (.func 89) [] [(.s 10)]),
 ⟨some (25, false), some 28, .inr (.fn 88 [(.s 26), (.s 27)])⟩,
 vP 29 (.pick (.s 25) (.c (.bool true)) (.s 28))])
 (.cond (.s 29) (.seq (.region [vP 30 (.bld [(.slice none 0 0), (.slice none 0 0), (.slice none 0 0), (.int .i64 0), (.slice none 0 0)] []),
 ⟨none, none, .inl (.st 5 (.s 6) (.s 30))⟩,
 vP 7 (.mv (vi 3))])
 (.ret))
 (.skip)))
 (.seq (.region [vP 32 (.ld true 2 (.s 3)),
 vN 33 90 [(.s 32)],
 vM 31 33,
 vP 34 (.ex (.s 31) 0),
 vP 35 (.ex (.s 31) 1),
 vM 11 34,
 vM 12 35])
 (.seq (.seq (.region [vM 36 11,
 vP 37 (.len (.s 36)),
 vP 38 (vc .eql 37 0)])
 (.cond (.s 38) (.seq (.region [vP 39 (.bld [(.slice none 0 0), (.slice none 0 0), (.slice none 0 0), (.int .i64 0), (.slice none 0 0)] []),
 ⟨none, none, .inl (.st 5 (.s 6) (.s 39))⟩,
 vP 7 (.mv (vi 25))])
 (.ret))
 (.skip)))
 (.seq (.draw [vD (vP 40 (.ld true 2 (.s 3))) 0,
 vD (vL 41 1 9) 0,
 vD (vL 42 1 9) 0,
 vD (vM 43 2) 0,
 vD (vN 44 91 [(.s 42), (.s 43)]) 12,
 vD (vM 45 11) 0,
 vD (vP 46 (.bld [(.slice none 0 0), (.slice none 0 0), (.slice none 0 0), (.int .i64 0), (.slice none 0 0)] [(0, 2, (.s 40)), (2, 1, (.s 41)), (3, 1, (.s 44)), (4, 1, (.s 45))])) 63,
 ⟨⟨none, none, .inl (.st 5 (.s 6) (.s 46))⟩, (some [.at 6]), [], 127, false⟩,
 vD (vP 7 (.mv (vi 0))) 255])
 (.ret))))))))
def k71l0 : Cd :=
  .seq (.region [vP 48 (vb .lss 47 46)])
 (.seq (.cond (.s 48) (.skip)
 (.exit 2))
 (.seq (.block 3 (.seq (.region [vI 49 2 45 47,
 vP 50 (.ld true 2 (.s 49)),
 vP 14 (.alloc 55 [(.int .i64 0), (.int .i64 0)]),
 ⟨none, none, .inl (.st 2 (.s 14) (.s 50))⟩])
 (.draw [vD (vM 51 9) 0,
 vD (vM 52 10) 0,
 vD (vM 53 9) 0,
 vD (vM 54 10) 0,
 vD (vI 55 1 53 54) 12,
 ⟨vL 56 1 55, some [], [.fr 60], 28, false⟩,
 vD (vP 57 (.ld true 2 (.s 14))) 0,
 vD (vM 58 12) 0,
 vD (vP 59 (.bld [(.int .i64 0), (.int .i64 0), (.int .i64 0), (.bool false)] [(0, 2, (.s 57)), (2, 1, (.s 58)), (3, 1, (.c (.bool true)))])) 192,
 ⟨vP 60 (.bs 125 4 1 [(.int .i64 0), (.int .i64 0), (.int .i64 0), (.bool false)] [(0, (.s 59))]), (some [.fr 60]), [], 448, false⟩,
 ⟨vP 61 (.app 125 4 32 (.s 56) (.s 60)), (some [.fr 61, .at 56]), [], 1020, false⟩,
 vD (vI 62 1 51 52) 2047,
 ⟨⟨none, none, .inl (.st 1 (.s 62) (.s 61))⟩, (some [.at 9]), [], 4095, false⟩])))
 (.region [vP 63 (vc .add 47 1),
 vM 47 63])))
def k71l1 : Cd :=
  .seq (.region [vP 74 (vb .lss 73 72)])
 (.seq (.cond (.s 74) (.skip)
 (.exit 4))
 (.seq (.block 5 (.seq (.region [vI 75 2 71 73,
 vP 76 (.ld true 2 (.s 75)),
 vP 16 (.alloc 55 [(.int .i64 0), (.int .i64 0)]),
 ⟨none, none, .inl (.st 2 (.s 16) (.s 76))⟩])
 (.draw [vD (vM 77 9) 0,
 vD (vM 78 10) 0,
 vD (vM 79 9) 0,
 vD (vM 80 10) 0,
 vD (vI 81 1 79 80) 12,
 ⟨vL 82 1 81, some [], [.fr 86], 28, false⟩,
 vD (vP 83 (.ld true 2 (.s 16))) 0,
 vD (vM 84 12) 0,
 vD (vP 85 (.bld [(.int .i64 0), (.int .i64 0), (.int .i64 0), (.bool false)] [(0, 2, (.s 83)), (2, 1, (.s 84)), (3, 1, (.c (.bool false)))])) 192,
 ⟨vP 86 (.bs 125 4 1 [(.int .i64 0), (.int .i64 0), (.int .i64 0), (.bool false)] [(0, (.s 85))]), (some [.fr 86]), [], 448, false⟩,
 ⟨vP 87 (.app 125 4 32 (.s 82) (.s 86)), (some [.fr 87, .at 82]), [], 1020, false⟩,
 vD (vI 88 1 77 78) 2047,
 ⟨⟨none, none, .inl (.st 1 (.s 88) (.s 87))⟩, (some [.at 9]), [], 4095, false⟩])))
 (.region [vP 89 (vc .add 73 1),
 vM 73 89])))
def k71l2 : Cd :=
  .seq (.region [vP 29 (vb .lss 28 27)])
 (.seq (.cond (.s 29) (.skip)
 (.exit 0))
 (.seq (.block 1 (.seq (.region [vM 30 28,
 vI 31 5 26 28,
 vP 32 (.ld true 5 (.s 31)),
 vP 11 (.alloc 67 [(.int .i64 0), (.int .i64 0), (.int .i64 0), (.int .i64 0), (.int .i64 0)]),
 vM 10 30,
 ⟨none, none, .inl (.st 5 (.s 11) (.s 32))⟩])
 (.seq (.region [vF 33 3 2,
 vL 34 1 33,
 vF 35 11 2,
 vL 36 1 35,
 vN 37 91 [(.s 34), (.s 36)],
 vM 12 37])
 (.seq (.seq (.region [vM 38 7,
 vF 39 11 4,
 vL 40 1 39,
 vP 41 (.neg (.s 40)),
 vF 42 11 3,
 vL 43 1 42,
 vP 44 (.neg (.s 43)),
 vN 45 24 [(.s 38), (.s 41), (.s 44)],
 vP 46 (.len (.s 45)),
 vP 47 (.mv (vi 0))])
 (.block 2 (.loop k71l0)))
 (.seq (.region [vM 64 8,
 vF 65 11 4,
 vL 66 1 65,
 vP 67 (.neg (.s 66)),
 vF 68 11 3,
 vL 69 1 68,
 vP 70 (.neg (.s 69)),
 vN 71 24 [(.s 64), (.s 67), (.s 70)],
 vP 72 (.len (.s 71)),
 vP 73 (.mv (vi 0))])
 (.block 4 (.loop k71l1)))))))
 (.region [vP 90 (vc .add 28 1),
 vM 28 90])))
def k71 : Cd :=
  .seq (.region [vP 3 (.box 95 5 (.s 0)),
 vP 5 (.box 55 2 (.s 2)),
 vP 6 (.mv (.c (.slice none 0 0)))])
 (.seq (.region [vP 17 (.ld true 2 (.s 5)),
 vP 18 (.bs 55 2 1 [(.int .i64 0), (.int .i64 0)] [(0, (.s 17))]),
 vM 7 18])
 (.seq (.region [vP 19 (.bld [(.int .i64 0), (.int .i64 0)] [(0, 1, (.c (.int .i64 (-1000000000)))), (1, 1, (vi 1000000000))]),
 vP 20 (.bst 55 2 1 [(.int .i64 0), (.int .i64 0)] [(0, (.s 19))]),
 vM 21 7,
 vN 22 17 [(.s 20), (.s 21)],
 vM 8 22])
 (.seq (.region [vM 23 1,
 vP 24 (.len (.s 23)),
 vP 25 (.mks 106 1 24 [(.slice none 0 0)] (.s 24) (.s 24)),
 vM 9 25])
 (.seq (.seq (.region [vM 26 1,
 vP 27 (.len (.s 26)),
 vP 28 (.mv (vi 0))])
 (.block 0 (.loop k71l2)))
 (.seq (.region [vM 91 9,
 vM 6 91])
 (.ret))))))
def k72l0 : Cd :=
  .seq (.region [vP 40 (vb .lss 39 38)])
 (.seq (.cond (.s 40) (.skip)
 (.exit 0))
 (.seq (.block 1 (.seq (.region [vM 41 39,
 vM 10 41])
 (.seq (.draw [vD (vF 42 9 5) 0,
 ⟨vL 43 1 42, some [], [.keep 9], 1, false⟩,
 vD (vM 44 10) 0,
 ⟨vP 45 (.bst 3 1 1 [(.int .i64 0)] [(0, (vi 1000000000))]), (some [.fr 45]), [.av 9], 0, false⟩,
 vD (vF 46 2 2) 0,
 ⟨vL 47 1 46, some [], [.fr 45], 16, false⟩,
 vD (vP 48 (.len (.s 47))) 48,
 ⟨vN 49 94 [(.s 45), (.s 48)], none, [.av 9], 120, false⟩,
 vD (vI 50 1 43 44) 255,
 ⟨⟨none, none, .inl (.st 1 (.s 50) (.s 49))⟩, (some [.at 43]), [], 511, false⟩])
 (.region [vF 51 9 5,
 vL 52 1 51,
 vM 53 10,
 vI 54 1 52 53,
 vL 55 1 54,
 vM 56 10,
 vI 57 1 55 56,
 ⟨none, none, .inl (.st 1 (.s 57) (vi 0))⟩]))))
 (.region [vP 58 (vc .add 39 1),
 vM 39 58])))
def k72l1 : Cd :=
  .seq (.region [vP 67 (vb .lss 66 65)])
 (.seq (.cond (.s 67) (.skip)
 (.exit 2))
 (.seq (.block 3 (.seq (.region [vM 68 66,
 vI 69 1 64 66,
 vL 70 1 69,
 vM 12 68,
 vM 13 70])
 (.region [vM 71 11,
 vM 72 12,
 vF 73 2 2,
 vL 74 1 73,
 vM 75 13,
 vN 76 91 [(.s 74), (.s 75)],
 vI 77 1 71 72,
 ⟨none, none, .inl (.st 1 (.s 77) (.s 76))⟩])))
 (.region [vP 78 (vc .add 66 1),
 vM 66 78])))
def k72l2 : Cd :=
  .seq (.region [vP 90 (vb .lss 89 88)])
 (.seq (.cond (.s 90) (.skip)
 (.exit 6))
 (.seq (.block 7 (.seq (.region [vM 91 89,
 vI 92 1 87 89,
 vL 93 1 92,
 vM 16 91,
 vM 17 93])
 (.draw [vD (vF 94 9 5) 0,
 vD (vL 95 1 94) 1,
 vD (vM 96 11) 0,
 vD (vM 97 14) 0,
 vD (vI 98 1 96 97) 12,
 vD (vL 99 1 98) 28,
 vD (vI 100 1 95 99) 63,
 vD (vL 101 1 100) 127,
 vD (vM 102 11) 0,
 vD (vM 103 16) 0,
 vD (vI 104 1 102 103) 768,
 vD (vL 105 1 104) 1792,
 vD (vM 106 17) 0,
 vD (vI 107 1 101 105) 8191,
 ⟨⟨none, none, .inl (.st 1 (.s 107) (.s 106))⟩, (some [.at 101]), [], 16383, false⟩])))
 (.region [vP 108 (vc .add 89 1),
 vM 89 108])))
def k72l3 : Cd :=
  .seq (.region [vP 83 (vb .lss 82 81)])
 (.seq (.cond (.s 83) (.skip)
 (.exit 4))
 (.seq (.block 5 (.seq (.region [vM 84 82,
 vI 85 1 80 82,
 vL 86 1 85,
 vM 14 84,
 vM 15 86])
 (.seq (.region [vM 87 15,
 vP 88 (.len (.s 87)),
 vP 89 (.mv (vi 0))])
 (.block 6 (.loop k72l2)))))
 (.region [vP 109 (vc .add 82 1),
 vM 82 109])))
def k72 : Cd :=
  .seq (.region [vP 2 (.box 95 5 (.s 0)),
 vP 4 (.alloc 103 [(.slice none 0 0), (.slice none 0 0), (.slice none 0 0), (.int .i64 0), (.slice none 0 0), (.slice none 0 0)])])
 (.seq (.region [vF 19 2 0,
 vP 20 (.ld true 2 (.s 19)),
 vM 21 1,
 vN 22 92 [(.s 20), (.s 21)],
 vM 18 22,
 vP 23 (.ex (.s 18) 0),
 vP 24 (.ex (.s 18) 1),
 vM 5 23,
 vM 6 24])
 (.seq (.region [vM 26 5,
 vN 27 93 [(.s 26)],
 vM 25 27,
 vP 28 (.ex (.s 25) 0),
 vP 29 (.ex (.s 25) 1),
 vP 7 (.alloc 129 [(.slice none 0 0), (.slice none 0 0)]),
 ⟨none, none, .inl (.st 2 (.s 7) (.s 28))⟩,
 vM 8 29])
 (.seq (.draw [⟨vP 30 (.ld true 5 (.s 2)), some [], [.fr 34, .fr 9], 0, false⟩,
 vD (vF 31 2 2) 0,
 ⟨vL 32 1 31, some [], [.fr 9], 2, false⟩,
 vD (vP 33 (.len (.s 32))) 6,
 ⟨vP 34 (.mks 44 1 24 [(.slice none 0 0)] (.s 33) (.s 33)), (some [.fr 34]), [.fr 9], 14, false⟩,
 vD (vP 35 (.bld [(.slice none 0 0), (.slice none 0 0), (.slice none 0 0), (.int .i64 0), (.slice none 0 0), (.slice none 0 0)] [(0, 5, (.s 30)), (5, 1, (.s 34))])) 31,
 ⟨vP 9 (.alloc 103 [(.slice none 0 0), (.slice none 0 0), (.slice none 0 0), (.int .i64 0), (.slice none 0 0), (.slice none 0 0)]), (some [.fr 9]), [.fr 34], 0, false⟩,
 ⟨⟨none, none, .inl (.st 6 (.s 9) (.s 35))⟩, (some [.fr 9]), [], 127, false⟩])
 (.seq (.seq (.region [vF 36 9 5,
 vL 37 1 36,
 vP 38 (.len (.s 37)),
 vP 39 (.mv (vi 0))])
 (.block 0 (.loop k72l0)))
 (.seq (.region [vF 59 7 0,
 vL 60 1 59,
 vP 61 (.len (.s 60)),
 vP 62 (.mks 3 1 8 [(.int .i64 0)] (.s 61) (.s 61)),
 vM 11 62])
 (.seq (.seq (.region [vF 63 7 0,
 vL 64 1 63,
 vP 65 (.len (.s 64)),
 vP 66 (.mv (vi 0))])
 (.block 2 (.loop k72l1)))
 (.seq (.seq (.region [vF 79 7 1,
 vL 80 1 79,
 vP 81 (.len (.s 80)),
 vP 82 (.mv (vi 0))])
 (.block 4 (.loop k72l3)))
 (.seq (.region [vP 110 (.ld true 6 (.s 9)),
 ⟨none, none, .inl (.st 6 (.s 4) (.s 110))⟩])
 (.ret)))))))))
def k73 : Cd :=
  .seq (.region [vP 2 (.box 103 6 (.s 0)),
 vP 3 (.box 98 1 (.s 1)),
 vP 4 (.mv (.c .nilFunc))])
 (.seq (.region [vP 5 (.mkf (.func 95) [] [(.s 2), (.s 3)]),
 vM 4 5])
 (.ret))
def k74l0 : Cd :=
  .seq (.region [vP 9 (vb .lss 8 7)])
 (.seq (.cond (.s 9) (.skip)
 (.exit 0))
 (.seq (.block 1 (.seq (.region [vI 10 4 6 8,
 vP 11 (.ldv true 4 (.s 10)),
 vP 5 (.alloc 125 [(.int .i64 0), (.int .i64 0), (.int .i64 0), (.bool false)]),
 ⟨none, none, .inl (.st 4 (.s 5) (.s 11))⟩])
 (.seq (.region [vF 12 5 3,
 vL 13 1 12])
 (.cond (.s 13) (.region [vM 14 3,
 vP 15 (vc .add 14 1),
 vM 3 15])
 (.skip)))))
 (.region [vP 16 (vc .add 8 1),
 vM 8 16])))
def k74 : Cd :=
  .seq (.region [vP 2 (.mv (vi 0))])
 (.seq (.region [vP 3 (.mv (vi 0))])
 (.seq (.seq (.region [vM 6 0,
 vP 7 (.len (.s 6)),
 vP 8 (.mv (vi 0))])
 (.block 0 (.loop k74l0)))
 (.seq (.region [vM 17 3,
 vM 2 17])
 (.ret))))
def k75l0 : Cd :=
  .seq (.region [vP 9 (vb .lss 8 7)])
 (.seq (.cond (.s 9) (.skip)
 (.exit 0))
 (.seq (.block 1 (.seq (.region [vM 10 8,
 vM 5 10])
 (.seq (.region [vM 11 1,
 vM 12 0,
 vM 13 5,
 vI 14 2 12 13,
 vP 15 (.ld true 2 (.s 14)),
 ⟨none, some 16, .inr (.val false (.s 11) [(.s 15)])⟩])
 (.cond (.s 16) (.seq (.region [vM 17 5,
 vM 4 17])
 (.ret))
 (.skip)))))
 (.region [vP 18 (vc .add 8 1),
 vM 8 18])))
def k75 : Cd :=
  .seq (.region [vP 4 (.mv (vi 0))])
 (.seq (.seq (.region [vM 6 0,
 vP 7 (.len (.s 6)),
 vP 8 (.mv (vi 0))])
 (.block 0 (.loop k75l0)))
 (.seq (.region [vP 4 (.mv (.c (.int .i64 (-1))))])
 (.ret)))
def k76 : Cd :=
  .seq (.region [vP 2 (.mv (.c (.bool false)))])
 (.seq (.region [vM 3 0,
 vM 4 0,
 vP 5 (vb .neq 3 4),
 vM 2 5])
 (.ret))
def k77 : Cd :=
  .seq (.region [vP 4 (.mv (.c (.bool false)))])
 (.seq (.region [vM 5 0,
 vM 6 1,
 vN 7 97 [(.s 5), (.s 6)],
 vP 8 (vc .geq 7 0),
 vM 4 8])
 (.ret))
def k78 : Cd :=
  .seq (.region [vP 2 (.mv (.c (.bool false)))])
 (.seq (.region [vM 3 0,
 vN 4 53 [(.s 3), (vi 0), (vi 200000)],
 vP 5 (.not (.s 4)),
 vM 2 5])
 (.ret))
def k79 : Cd :=
  .seq (.region [vM 5 0,
 vP 6 (.len (.s 5)),
 vM 4 6])
 (.region [vM 7 0,
 vM 8 4,
 vM 9 4,
 vP 10 (.cvi .u64 (.s 9)),
 vN 11 99 [(.s 10)],
 vM 12 1,
 vN 13 98 [(.s 7), (vi 0), (.s 8), (.s 11), (.s 12)]])
def k80 : Cd :=
  .seq (.region [vP 2 (.box 90 3 (.s 0)),
 vP 3 (.box 90 3 (.s 1)),
 vP 4 (.mv (vi 0))])
 (.seq (.region [vF 5 2 0,
 vL 6 1 5,
 vF 7 3 0,
 vL 8 1 7,
 vN 9 58 [(.s 6), (.s 8)],
 vM 4 9])
 (.ret))
def k81 : Cd :=
  .seq (.region [vP 1 (.box 111 1 (.s 0)),
 vP 2 (.mv (.c .nilFunc))])
 (.seq (.region [vP 3 (.mkf (.func 100) [] [(.s 1)]),
 vM 2 3])
 (.ret))
def k82 : Cd :=
  .seq (.region [vP 1 (.box 67 5 (.s 0)),
 vP 2 (.mv (vi 0))])
 (.seq (.seq (.region [vP 3 (.ld true 5 (.s 1)),
 vN 4 101 [(.s 3)],
 vP 5 (.not (.s 4))])
 (.cond (.s 5) (.seq (.region [vP 2 (.mv (vi 61))])
 (.ret))
 (.skip)))
 (.seq (.region [vP 2 (.mv (vi 0))])
 (.ret)))
def k83 : Cd :=
  .seq (.region [vP 3 (.box 65 2 (.s 0)),
 vP 4 (.box 3 1 (.s 1)),
 vP 5 (.box 3 1 (.s 2)),
 vP 6 (.mv (.c (.slice none 0 0))),
 vP 7 (.mv (vi 0))])
 (.seq (.seq (.region [vP 10 (.ld true 2 (.s 3)),
 vL 11 1 4,
 vL 12 1 5,
 vN 13 102 [(.s 10), (.s 11), (.s 12)],
 vM 8 13])
 (.seq (.region [vM 14 8,
 vP 15 (vc .neq 14 0)])
 (.cond (.s 15) (.seq (.region [vM 16 8,
 vP 6 (.mv (.c (.slice none 0 0))),
 vM 7 16])
 (.ret))
 (.skip))))
 (.seq (.region [vP 9 (.alloc 22 [(.slice none 0 0)])])
 (.seq (.region [vP 17 (.ld true 2 (.s 3)),
 vP 18 (.mkf (.func 104) [] [(.s 4), (.s 5), (.s 9)]),
 vN 19 103 [(.s 17), (.s 18)]])
 (.seq (.seq (.region [vL 20 1 9,
 vP 21 (.len (.s 20)),
 vP 22 (vc .eql 21 0)])
 (.cond (.s 22) (.seq (.region [vP 6 (.mv (.c (.slice none 0 0))),
 vP 7 (.mv (vi 25))])
 (.ret))
 (.skip)))
 (.seq (.region [vL 23 1 9,
 vN 24 106 [(.s 23)],
 vM 6 24,
 vP 7 (.mv (vi 0))])
 (.ret))))))
def k84l0 : Cd :=
  .seq (.region [vP 25 (vb .lss 24 23)])
 (.seq (.cond (.s 25) (.skip)
 (.exit 0))
 (.seq (.block 1 (.seq (.region [vI 26 2 22 24,
 vP 27 (.ld true 2 (.s 26)),
 vP 5 (.alloc 147 [(.int .i64 0), (.slice none 0 0)]),
 ⟨none, none, .inl (.st 2 (.s 5) (.s 27))⟩])
 (.seq (.region [vP 28 (.ld true 2 (.s 5)),
 vN 29 108 [(.s 28)],
 vM 6 29])
 (.seq (.region [vM 30 6,
 vP 31 (vc .neq 30 0)])
 (.cond (.s 31) (.seq (.region [vM 32 6,
 vM 2 32])
 (.ret))
 (.skip))))))
 (.region [vP 33 (vc .add 24 1),
 vM 24 33])))
def k84l1 : Cd :=
  .seq (.region [vP 41 (vb .lss 40 39)])
 (.seq (.cond (.s 41) (.skip)
 (.exit 2))
 (.seq (.block 3 (.seq (.region [vI 42 2 38 40,
 vP 43 (.ld true 2 (.s 42)),
 vP 10 (.alloc 147 [(.int .i64 0), (.slice none 0 0)]),
 ⟨none, none, .inl (.st 2 (.s 10) (.s 43))⟩])
 (.seq (.region [vM 44 7,
 vF 45 10 1,
 vL 46 1 45,
 vP 47 (.len (.s 46)),
 vP 48 (vb .mul 44 47),
 vM 7 48])
 (.region [vM 49 8,
 vP 50 (.ld true 2 (.s 10)),
 vN 51 109 [(.s 50)],
 vP 52 (vb .add 49 51),
 vM 8 52]))))
 (.region [vP 53 (vc .add 40 1),
 vM 40 53])))
def k84 : Cd :=
  .seq (.region [vP 1 (.box 65 2 (.s 0)),
 vP 2 (.mv (vi 0))])
 (.seq (.seq (.region [vF 11 1 0,
 vL 12 1 11,
 vN 13 107 [(.s 12)],
 vM 3 13])
 (.seq (.region [vM 14 3,
 vP 15 (vc .neq 14 0)])
 (.cond (.s 15) (.seq (.region [vM 16 3,
 vM 2 16])
 (.ret))
 (.skip))))
 (.seq (.seq (.region [vF 17 1 1,
 vL 18 1 17,
 vP 19 (.len (.s 18)),
 vP 20 (vc .gtr 19 6)])
 (.cond (.s 20) (.seq (.region [vP 2 (.mv (vi 2))])
 (.ret))
 (.skip)))
 (.seq (.seq (.region [vF 21 1 1,
 vL 22 1 21,
 vP 23 (.len (.s 22)),
 vP 24 (.mv (vi 0))])
 (.block 0 (.loop k84l0)))
 (.seq (.draw [vD (vF 34 1 0) 0,
 vD (vL 35 1 34) 1,
 vD (vP 36 (.len (.s 35))) 3,
 vD (vP 7 (.mv (vi 1))) 0,
 vD (vM 8 36) 15])
 (.seq (.seq (.region [vF 37 1 1,
 vL 38 1 37,
 vP 39 (.len (.s 38)),
 vP 40 (.mv (vi 0))])
 (.block 2 (.loop k84l1)))
 (.seq (.seq (.region [vM 54 7,
 vP 55 (vc .gtr 54 3000),
 vM 56 55,
 vU 56 57 (.mv (.s 8)),
 vU 56 58 (vc .gtr 57 400),
 vP 59 (.pick (.s 56) (.c (.bool true)) (.s 58)),
 vM 60 59,
 vU 60 61 (.ld true 2 (.s 1)),
 ⟨some (60, false), some 62, .inr (.fn 85 [(.s 61)])⟩,
 vU 60 63 (.len (.s 62)),
 vU 60 64 (vc .gtr 63 64),
 vP 65 (.pick (.s 60) (.c (.bool true)) (.s 64))])
 (.cond (.s 65) (.seq (.region [vP 2 (.mv (vi 2))])
 (.ret))
 (.skip)))
 (.seq (.region [vP 2 (.mv (vi 0))])
 (.ret))))))))
def k85l0 : Cd :=
  .seq (.region [vP 22 (vb .lss 21 20)])
 (.seq (.cond (.s 22) (.skip)
 (.exit 2))
 (.seq (.block 3 (.seq (.region [vI 23 1 19 21,
 vL 24 1 23,
 vM 7 24])
 (.region [vM 25 7,
 vN 26 110 [(.s 3), (.s 25)]])))
 (.region [vP 27 (vc .add 21 1),
 vM 21 27])))
def k85l1 : Cd :=
  .seq (.region [vP 15 (vb .lss 14 13)])
 (.seq (.cond (.s 15) (.skip)
 (.exit 0))
 (.seq (.block 1 (.seq (.region [vI 16 2 12 14,
 vP 17 (.ld true 2 (.s 16)),
 vP 5 (.alloc 147 [(.int .i64 0), (.slice none 0 0)]),
 ⟨none, none, .inl (.st 2 (.s 5) (.s 17))⟩])
 (.seq (.region [vF 18 5 1,
 vL 19 1 18,
 vP 20 (.len (.s 19)),
 vP 21 (.mv (vi 0))])
 (.block 2 (.loop k85l0)))))
 (.region [vP 28 (vc .add 14 1),
 vM 14 28])))
def k85 : Cd :=
  .seq (.region [vP 1 (.box 65 2 (.s 0)),
 vP 2 (.mv (.c (.slice none 0 0)))])
 (.seq (.region [vP 3 (.alloc 153 [(.int .u64 0), (.int .u64 0), (.int .u64 0), (.int .u64 0), (.int .u64 0), (.int .u64 0), (.int .u64 0), (.int .u64 0), (.int .u64 0), (.int .u64 0), (.int .u64 0), (.int .u64 0), (.int .u64 0), (.int .u64 0), (.int .u64 0), (.int .u64 0), (.int .u64 0), (.int .u64 0), (.int .u64 0), (.int .u64 0), (.int .u64 0), (.int .u64 0), (.int .u64 0), (.int .u64 0), (.int .u64 0), (.int .u64 0), (.int .u64 0), (.int .u64 0), (.int .u64 0), (.int .u64 0), (.int .u64 0), (.int .u64 0), (.int .u64 0)])])
 (.seq (.region [vF 8 1 0,
 vL 9 1 8,
 vN 10 110 [(.s 3), (.s 9)]])
 (.seq (.seq (.region [vF 11 1 1,
 vL 12 1 11,
 vP 13 (.len (.s 12)),
 vP 14 (.mv (vi 0))])
 (.block 0 (.loop k85l1)))
 (.seq (.region [vN 29 111 [(.s 3)],
 vM 2 29])
 (.ret)))))
def k86 : Cd :=
  .seq (.region [vP 3 (.mv (.c (.bool false)))])
 (.seq (.region [vL 4 1 1,
 vM 5 0,
 vN 6 87 [(.s 4), (.s 5)],
 vP 7 (.not (.s 6)),
 vM 3 7])
 (.ret))
def k87 : Cd :=
  .seq (.region [vP 4 (.mv (.c (.bool false)))])
 (.seq (.region [vM 5 0,
 vM 6 1,
 vN 7 91 [(.s 5), (.s 6)],
 vP 8 (vc .geq 7 0),
 vM 4 8])
 (.ret))
def k88 : Cd :=
  .seq (.region [vP 4 (.mv (.c (.bool false)))])
 (.seq (.region [vM 5 0,
 vM 6 1,
 vN 7 112 [(.s 5), (.s 6)],
 vP 8 (vc .geq 7 0),
 vM 4 8])
 (.ret))
def k89 : Cd :=
  .seq (.region [vP 2 (.box 67 5 (.s 0)),
 vP 3 (.mv (.c (.bool false)))])
 (.seq (.region [vL 4 1 1,
 vF 5 2 2,
 vL 6 1 5,
 ⟨none, some 7, .inr (.val false (.s 4) [(.s 6)])⟩,
 vM 3 7])
 (.ret))
def k90 : Cd :=
  .seq (.region [vP 1 (.box 65 2 (.s 0)),
 vP 2 (.mv (.c (.slice none 0 0))),
 vP 3 (.mv (vi 0))])
 (.seq (.seq (.region [vP 6 (.ld true 2 (.s 1)),
 vN 7 84 [(.s 6)],
 vM 4 7])
 (.seq (.region [vM 8 4,
 vP 9 (vc .neq 8 0)])
 (.cond (.s 9) (.seq (.region [vM 10 4,
 vP 2 (.mv (.c (.slice none 0 0))),
 vM 3 10])
 (.ret))
 (.skip))))
 (.seq (.region [vP 5 (.alloc 93 [(.slice none 0 0)])])
 (.seq (.region [vP 11 (.ld true 2 (.s 1)),
 vP 12 (.mkf (.func 113) [] [(.s 5)]),
 vN 13 103 [(.s 11), (.s 12)]])
 (.seq (.region [vL 14 1 5,
 vM 2 14,
 vP 3 (.mv (vi 0))])
 (.ret)))))
def k91l0 : Cd :=
  .seq (.region [vP 9 (vb .lss 8 7)])
 (.seq (.cond (.s 9) (.skip)
 (.exit 0))
 (.seq (.block 1 (.seq (.region [vM 10 8,
 vM 5 10])
 (.seq (.region [vM 11 1,
 vM 12 0,
 vM 13 5,
 vI 14 1 12 13,
 vL 15 1 14,
 vP 16 (vb .eql 11 15)])
 (.cond (.s 16) (.seq (.region [vM 17 5,
 vM 4 17])
 (.ret))
 (.skip)))))
 (.region [vP 18 (vc .add 8 1),
 vM 8 18])))
def k91 : Cd :=
  .seq (.region [vP 4 (.mv (vi 0))])
 (.seq (.seq (.region [vM 6 0,
 vP 7 (.len (.s 6)),
 vP 8 (.mv (vi 0))])
 (.block 0 (.loop k91l0)))
 (.seq (.region [vP 4 (.mv (.c (.int .i64 (-1))))])
 (.ret)))
def k92l0 : Cd :=
  .seq (.region [vP 24 (vb .lss 23 22)])
 (.seq (.cond (.s 24) (.skip)
 (.exit 0))
 (.seq (.block 1 (.seq (.region [vM 25 23,
 vI 26 2 21 23,
 vP 27 (.ld true 2 (.s 26)),
 vP 8 (.alloc 147 [(.int .i64 0), (.slice none 0 0)]),
 vM 7 25,
 ⟨none, none, .inl (.st 2 (.s 8) (.s 27))⟩])
 (.seq (.draw [vD (vM 28 1) 0,
 vD (vM 29 7) 0,
 vD (vI 30 1 28 29) 3,
 vD (vL 31 1 30) 7,
 vD (vF 32 8 1) 0,
 vD (vL 33 1 32) 16,
 vD (vP 34 (.len (.s 33))) 48,
 vD (vP 35 (vc .sub 34 1)) 112,
 vD (vN 36 114 [(.s 31), (vi 0), (.s 35)]) 255,
 vD (vP 37 (.not (.s 36))) 511])
 (.cond (.s 37) (.seq (.region [vP 4 (.mv (.c (.slice none 0 0))),
 vP 5 (.mv (vi 51))])
 (.ret))
 (.skip)))))
 (.region [vP 38 (vc .add 23 1),
 vM 23 38])))
def k92 : Cd :=
  .seq (.region [vP 2 (.box 65 2 (.s 0)),
 vP 4 (.mv (.c (.slice none 0 0))),
 vP 5 (.mv (vi 0))])
 (.seq (.seq (.region [vP 9 (.ld true 2 (.s 2)),
 vN 10 84 [(.s 9)],
 vM 6 10])
 (.seq (.region [vM 11 6,
 vP 12 (vc .neq 11 0)])
 (.cond (.s 12) (.seq (.region [vM 13 6,
 vP 4 (.mv (.c (.slice none 0 0))),
 vM 5 13])
 (.ret))
 (.skip))))
 (.seq (.seq (.region [vM 14 1,
 vP 15 (.len (.s 14)),
 vF 16 2 1,
 vL 17 1 16,
 vP 18 (.len (.s 17)),
 vP 19 (vb .neq 15 18)])
 (.cond (.s 19) (.seq (.region [vP 4 (.mv (.c (.slice none 0 0))),
 vP 5 (.mv (vi 51))])
 (.ret))
 (.skip)))
 (.seq (.seq (.region [vF 20 2 1,
 vL 21 1 20,
 vP 22 (.len (.s 21)),
 vP 23 (.mv (vi 0))])
 (.block 0 (.loop k92l0)))
 (.seq (.region [vP 39 (.ld true 2 (.s 2)),
 vM 40 1,
 vN 41 115 [(.s 39), (.s 40)],
 vM 4 41,
 vP 5 (.mv (vi 0))])
 (.ret)))))
def k93 : Cd :=
  .seq (.region [vP 2 (.alloc 129 [(.slice none 0 0), (.slice none 0 0)]),
 vP 3 (.mv (vi 0))])
 (.seq (.seq (.region [vM 7 0,
 vN 8 107 [(.s 7)],
 vM 4 8])
 (.seq (.region [vM 9 4,
 vP 10 (vc .neq 9 0)])
 (.cond (.s 10) (.seq (.region [vP 11 (.bld [(.slice none 0 0), (.slice none 0 0)] []),
 vM 12 4,
 ⟨none, none, .inl (.st 2 (.s 2) (.s 11))⟩,
 vM 3 12])
 (.ret))
 (.skip))))
 (.seq (.region [vM 14 0,
 vN 15 117 [(.s 14), (.f 118)],
 vN 16 116 [(.s 15)],
 vM 13 16,
 vP 17 (.ex (.s 13) 0),
 vP 18 (.ex (.s 13) 1),
 vP 5 (.alloc 159 [(.slice none 0 0), (.slice none 0 0)]),
 ⟨none, none, .inl (.st 2 (.s 5) (.s 17))⟩,
 vM 6 18])
 (.seq (.seq (.region [vM 19 6,
 vP 20 (.not (.s 19))])
 (.cond (.s 20) (.seq (.region [vP 21 (.bld [(.slice none 0 0), (.slice none 0 0)] []),
 ⟨none, none, .inl (.st 2 (.s 2) (.s 21))⟩,
 vP 3 (.mv (vi 25))])
 (.ret))
 (.skip)))
 (.seq (.region [vF 22 5 0,
 vP 23 (.ld true 2 (.s 22)),
 ⟨none, none, .inl (.st 2 (.s 2) (.s 23))⟩,
 vP 3 (.mv (vi 0))])
 (.ret)))))
def k94l0 : Cd :=
  .seq (.seq (.region [vM 34 8,
 vM 35 7,
 vP 36 (.len (.s 35)),
 vP 37 (vb .lss 34 36)])
 (.cond (.s 37) (.skip)
 (.exit 0)))
 (.block 1 (.draw [vD (vM 38 8) 0,
 vD (vM 39 7) 0,
 vD (vM 40 8) 0,
 vD (vP 41 (.slc 1 (.s 39) (some (.s 40)) none none)) 6,
 vD (vM 42 7) 0,
 vD (vM 43 8) 0,
 vD (vP 44 (.slc 1 (.s 42) none (some (.s 43)) none)) 48,
 ⟨vP 45 (.cpy 1 (.s 41) (.s 44)), (some [.at 7]), [], 126, false⟩,
 vD (vP 46 (vb .add 38 45)) 255,
 vD (vM 8 46) 511]))
def k94 : Cd :=
  .seq (.region [vP 4 (.mv (.c (.slice none 0 0)))])
 (.seq (.seq (.region [vM 9 1,
 vP 10 (vc .lss 9 0)])
 (.cond (.s 10) (.region [⟨none, some 11, .inl (.mki 9 (.c (.string ⟨#[99, 97, 110, 110, 111, 116, 32, 98, 101, 32, 110, 101, 103, 97, 116, 105, 118, 101]⟩)))⟩,
 ⟨none, none, .inr (.pan (.s 11))⟩])
 (.skip)))
 (.seq (.region [vM 13 0,
 vP 14 (.len (.s 13)),
 vP 15 (.cvi .u64 (.s 14)),
 vM 16 1,
 vP 17 (.cvi .u64 (.s 16)),
 vN 18 119 [(.s 15), (.s 17)],
 vM 12 18,
 vP 19 (.ex (.s 12) 0),
 vP 20 (.ex (.s 12) 1),
 vM 5 19,
 vM 6 20])
 (.seq (.seq (.region [vM 21 5,
 vP 22 (.bin .gtr (.s 21) (.c (.int .u64 0))),
 vM 23 22,
 vU 23 24 (.mv (.s 6)),
 vU 23 25 (.bin .gtr (.s 24) (.c (.int .u64 9223372036854775807))),
 vP 26 (.pick (.s 23) (.c (.bool true)) (.s 25))])
 (.cond (.s 26) (.region [⟨none, some 27, .inl (.mki 9 (.c (.string ⟨#[116, 104, 101, 32, 114, 101, 115, 117, 108, 116, 32, 111, 102, 32, 40, 108, 101, 110, 40, 120, 41, 32, 42, 32, 99, 111, 117, 110, 116, 41, 32, 111, 118, 101, 114, 102, 108, 111, 119, 115]⟩)))⟩,
 ⟨none, none, .inr (.pan (.s 27))⟩])
 (.skip)))
 (.seq (.region [vM 28 6,
 vP 29 (.cvi .i64 (.s 28)),
 vP 30 (.mks 3 1 8 [(.int .i64 0)] (.s 29) (.s 29)),
 vM 7 30])
 (.seq (.region [vM 31 7,
 vM 32 0,
 vP 33 (.cpy 1 (.s 31) (.s 32)),
 vM 8 33])
 (.seq (.block 0 (.loop k94l0))
 (.seq (.region [vM 47 7,
 vM 4 47])
 (.ret))))))))
def k95 : Cd :=
  .region [vP 4 (.ld true 6 (.s 1)),
 vL 5 1 2,
 vF 6 1 0,
 vF 7 6 3,
 vL 8 1 7,
 vP 9 (.bld [(.int .i64 0), (.int .i64 0), (.int .i64 0), (.bool false)] [(2, 1, (.s 8))]),
 vP 10 (.bs 125 4 1 [(.int .i64 0), (.int .i64 0), (.int .i64 0), (.bool false)] [(0, (.s 9))]),
 vM 11 0,
 vN 12 96 [(.s 4), (.s 5), (.s 10), (.s 11)]]
def k96l0 : Cd :=
  .seq (.region [vP 22 (vb .lss 21 20)])
 (.seq (.cond (.s 22) (.skip)
 (.exit 0))
 (.seq (.block 1 (.seq (.region [vI 23 4 19 21,
 vP 24 (.ldv true 4 (.s 23)),
 vP 10 (.alloc 125 [(.int .i64 0), (.int .i64 0), (.int .i64 0), (.bool false)]),
 ⟨none, none, .inl (.st 4 (.s 10) (.s 24))⟩])
 (.seq (.draw [vD (vP 25 (.ld true 6 (.s 4))) 0,
 vD (vP 26 (.ldv true 4 (.s 10))) 0,
 vD (vM 27 2) 0,
 ⟨vN 28 120 [(.s 25), (.s 26), (.s 27)], none, [], 7, false⟩,
 vD (vM 29 28) 15,
 ⟨vT 29 30 (.ld true 6 (.s 4)), some [], [.fr 35, .fr 36, .at 2], 31, false⟩,
 vD (vT 29 31 (.mv (.s 1))) 31,
 ⟨vT 29 32 (.slc 1 (.s 31) (some (vi 1)) none none), some [], [.fr 35, .fr 36, .at 2], 95, false⟩,
 vD (vT 29 33 (.mv (.s 2))) 31,
 vD (vT 29 34 (.ldv true 4 (.s 10))) 31,
 ⟨vT 29 35 (.bs 125 4 1 [(.int .i64 0), (.int .i64 0), (.int .i64 0), (.bool false)] [(0, (.s 34))]), (some [.fr 35]), [], 543, false⟩,
 ⟨vT 29 36 (.apl 125 4 32 (.s 33) (.s 35)), (some [.fr 36, .at 2]), [], 1823, false⟩,
 vD (vT 29 37 (.mv (.s 3))) 31,
 ⟨⟨some (29, true), some 38, .inr (.fn 96 [(.s 30), (.s 32), (.s 36), (.s 37)])⟩, none, [], 8191, false⟩,
 vD (vT 29 39 (.not (.s 38))) 16383,
 vD (vP 40 (.pick (.s 29) (.s 39) (.c (.bool false)))) 32767])
 (.cond (.s 40) (.seq (.region [vP 8 (.mv (.c (.bool false)))])
 (.ret))
 (.skip)))))
 (.region [vP 41 (vc .add 21 1),
 vM 21 41])))
def k96 : Cd :=
  .seq (.region [vP 4 (.box 103 6 (.s 0)),
 vP 8 (.mv (.c (.bool false)))])
 (.seq (.seq (.region [vM 11 1,
 vP 12 (.len (.s 11)),
 vP 13 (vc .eql 12 0)])
 (.cond (.s 13) (.seq (.region [vM 14 3,
 vM 15 2,
 ⟨none, some 16, .inr (.val false (.s 14) [(.s 15)])⟩,
 vM 8 16])
 (.ret))
 (.skip)))
 (.seq (.seq (.region [vM 17 1,
 vP 18 (.ias 1 (.s 17) (vi 0)),
 vL 19 1 18,
 vP 20 (.len (.s 19)),
 vP 21 (.mv (vi 0))])
 (.block 0 (.loop k96l0)))
 (.seq (.region [vP 8 (.mv (.c (.bool true)))])
 (.ret))))
def k97l0 : Cd :=
  .seq (.region [vP 9 (vb .lss 8 7)])
 (.seq (.cond (.s 9) (.skip)
 (.exit 0))
 (.seq (.block 1 (.seq (.region [vM 10 8,
 vM 5 10])
 (.seq (.region [vM 11 1,
 vM 12 0,
 vM 13 5,
 vI 14 1 12 13,
 vL 15 1 14,
 ⟨none, some 16, .inr (.val false (.s 11) [(.s 15)])⟩])
 (.cond (.s 16) (.seq (.region [vM 17 5,
 vM 4 17])
 (.ret))
 (.skip)))))
 (.region [vP 18 (vc .add 8 1),
 vM 8 18])))
def k97 : Cd :=
  .seq (.region [vP 4 (.mv (vi 0))])
 (.seq (.seq (.region [vM 6 0,
 vP 7 (.len (.s 6)),
 vP 8 (.mv (vi 0))])
 (.block 0 (.loop k97l0)))
 (.seq (.region [vP 4 (.mv (.c (.int .i64 (-1))))])
 (.ret)))
def k98l0 : Cd :=
  .block 1 (.seq (.region [vM 21 2,
 vM 22 1,
 vP 23 (vb .sub 21 22),
 vM 12 23])
 (.seq (.seq (.region [vM 24 12,
 vP 25 (vc .leq 24 12)])
 (.cond (.s 25) (.seq (.region [vM 26 0,
 vM 27 1,
 vM 28 2,
 vM 29 4,
 vN 30 121 [(.s 26), (.s 27), (.s 28), (.s 29)]])
 (.ret))
 (.skip)))
 (.seq (.seq (.region [vM 31 3,
 vP 32 (vc .eql 31 0)])
 (.cond (.s 32) (.seq (.region [vM 33 0,
 vM 34 1,
 vM 35 2,
 vM 36 4,
 vN 37 122 [(.s 33), (.s 34), (.s 35), (.s 36)]])
 (.ret))
 (.skip)))
 (.seq (.seq (.region [vM 38 10,
 vP 39 (.not (.s 38))])
 (.cond (.s 39) (.seq (.region [vM 40 0,
 vM 41 1,
 vM 42 2,
 vM 43 4,
 vN 44 123 [(.s 40), (.s 41), (.s 42), (.s 43)]])
 (.region [vM 45 3,
 vP 46 (vc .sub 45 1),
 vM 3 46]))
 (.skip)))
 (.seq (.region [vM 48 0,
 vM 49 1,
 vM 50 2,
 vM 51 4,
 vN 52 124 [(.s 48), (.s 49), (.s 50), (.s 51)],
 vM 47 52,
 vP 53 (.ex (.s 47) 0),
 vP 54 (.ex (.s 47) 1),
 vM 13 53,
 vM 14 54])
 (.seq (.seq (.region [vM 55 14,
 vP 56 (vc .eql 55 2)])
 (.cond (.s 56) (.seq (.region [vM 57 0,
 vM 58 1,
 vM 59 2,
 vM 60 4,
 vN 61 125 [(.s 57), (.s 58), (.s 59), (.s 60)]])
 (.seq (.region [vM 62 2,
 vP 63 (vc .sub 62 1),
 vM 64 13,
 vM 65 1,
 vP 66 (vb .sub 64 65),
 vP 67 (vb .sub 63 66),
 vM 13 67])
 (.region [vP 14 (.mv (vi 1))])))
 (.skip)))
 (.seq (.seq (.region [vM 68 10,
 vM 69 68,
 vT 69 70 (.mv (.s 11)),
 vP 71 (.pick (.s 69) (.s 70) (.c (.bool false))),
 vM 72 71,
 vT 72 73 (.mv (.s 14)),
 vT 72 74 (vc .eql 73 1),
 vP 75 (.pick (.s 72) (.s 74) (.c (.bool false)))])
 (.cond (.s 75) (.seq (.region [vM 76 0,
 vM 77 1,
 vM 78 2,
 vM 79 4,
 vN 80 126 [(.s 76), (.s 77), (.s 78), (.s 79)]])
 (.cond (.s 80) (.ret)
 (.skip)))
 (.skip)))
 (.seq (.seq (.draw [vD (vM 81 1) 0,
 vD (vP 82 (vc .gtr 81 0)) 1,
 vD (vM 83 82) 3,
 vD (vT 83 84 (.mv (.s 4))) 7,
 vD (vT 83 85 (.mv (.s 0))) 7,
 vD (vT 83 86 (.mv (.s 1))) 7,
 vD (vT 83 87 (vc .sub 86 1)) 39,
 vD (vT 83 88 (.ias 3 (.s 85) (.s 87))) 119,
 vD (vT 83 89 (.ld true 3 (.s 88))) 247,
 vD (vT 83 90 (.mv (.s 0))) 7,
 vD (vT 83 91 (.mv (.s 13))) 7,
 vD (vT 83 92 (.ias 3 (.s 90) (.s 91))) 1543,
 vD (vT 83 93 (.ld true 3 (.s 92))) 3591,
 ⟨⟨some (83, true), some 94, .inr (.val true (.s 84) [(.s 89), (.s 93)])⟩, some [], [], 8191, false⟩,
 vD (vT 83 95 (vc .lss 94 0)) 16383,
 vD (vT 83 96 (.not (.s 95))) 32767,
 vD (vP 97 (.pick (.s 83) (.s 96) (.c (.bool false)))) 65535])
 (.cond (.s 97) (.seq (.region [vM 98 0,
 vM 99 1,
 vM 100 2,
 vM 101 13,
 vM 102 4,
 vN 103 127 [(.s 98), (.s 99), (.s 100), (.s 101), (.s 102)],
 vM 15 103])
 (.seq (.region [vM 104 15,
 vM 1 104])
 (.exit 1)))
 (.skip)))
 (.seq (.region [vM 106 0,
 vM 107 1,
 vM 108 2,
 vM 109 13,
 vM 110 4,
 vN 111 128 [(.s 106), (.s 107), (.s 108), (.s 109), (.s 110)],
 vM 105 111,
 vP 112 (.ex (.s 105) 0),
 vP 113 (.ex (.s 105) 1),
 vM 16 112,
 vM 17 113])
 (.seq (.region [vM 114 17,
 vM 11 114])
 (.seq (.region [vM 115 16,
 vM 116 1,
 vP 117 (vb .sub 115 116),
 vM 118 2,
 vM 119 16,
 vP 120 (vb .sub 118 119),
 vM 18 117,
 vM 19 120])
 (.seq (.region [vM 121 12,
 vP 122 (vc .quo 121 8),
 vM 20 122])
 (.seq (.region [vM 123 18,
 vM 124 19,
 vP 125 (vb .lss 123 124)])
 (.cond (.s 125) (.seq (.region [vM 126 18,
 vM 127 20,
 vP 128 (vb .geq 126 127),
 vM 10 128])
 (.seq (.region [vM 129 0,
 vM 130 1,
 vM 131 16,
 vM 132 3,
 vM 133 4,
 vN 134 98 [(.s 129), (.s 130), (.s 131), (.s 132), (.s 133)]])
 (.region [vM 135 16,
 vP 136 (vc .add 135 1),
 vM 1 136])))
 (.seq (.region [vM 137 19,
 vM 138 20,
 vP 139 (vb .geq 137 138),
 vM 10 139])
 (.seq (.region [vM 140 0,
 vM 141 16,
 vP 142 (vc .add 141 1),
 vM 143 2,
 vM 144 3,
 vM 145 4,
 vN 146 98 [(.s 140), (.s 142), (.s 143), (.s 144), (.s 145)]])
 (.region [vM 147 16,
 vM 2 147])))))))))))))))))
def k98 : Cd :=
  .seq (.region [vP 10 (.mv (.c (.bool true)))])
 (.seq (.region [vP 11 (.mv (.c (.bool true)))])
 (.block 0 (.loop k98l0)))
def k99 : Cd :=
  .seq (.region [vP 2 (.mv (vi 0))])
 (.seq (.cond (.c (.bool false)) (.seq (.region [vM 3 0,
 vP 4 (.cvi .u32 (.s 3)),
 vN 5 129 [(.s 4)],
 vM 2 5])
 (.ret))
 (.skip))
 (.seq (.region [vM 6 0,
 vN 7 130 [(.s 6)],
 vM 2 7])
 (.ret)))
def k100l0 : Cd :=
  .seq (.region [vP 8 (vb .lss 7 6)])
 (.seq (.cond (.s 8) (.skip)
 (.exit 0))
 (.seq (.block 1 (.seq (.region [vI 9 3 5 7,
 vP 10 (.ld true 3 (.s 9)),
 vP 4 (.alloc 90 [(.int .i64 0), (.int .i64 0), (.int .i64 0)]),
 ⟨none, none, .inl (.st 3 (.s 4) (.s 10))⟩])
 (.seq (.region [vM 11 0,
 vP 12 (.ld true 3 (.s 4)),
 ⟨none, some 13, .inr (.val false (.s 11) [(.s 12)])⟩,
 vP 14 (.not (.s 13))])
 (.cond (.s 14) (.ret)
 (.skip)))))
 (.region [vP 15 (vc .add 7 1),
 vM 7 15])))
def k100 : Cd :=
  .seq (.region [vL 5 1 1,
 vP 6 (.len (.s 5)),
 vP 7 (.mv (vi 0))])
 (.block 0 (.loop k100l0))
def k101 : Cd :=
  .seq (.region [vP 1 (.box 67 5 (.s 0)),
 vP 2 (.mv (.c (.bool false)))])
 (.seq (.region [vF 4 1 0,
 vL 5 1 4,
 vN 6 131 [(.s 5), (vi 1), (vi 99999)],
 vM 7 6,
 vT 7 8 (.fa (.s 1) 1),
 vT 7 9 (.ld false 1 (.s 8)),
 ⟨some (7, true), some 10, .inr (.fn 131 [(.s 9), (vi 0), (vi 99)])⟩,
 vP 11 (.pick (.s 7) (.s 10) (.c (.bool false))),
 vM 12 11,
 vT 12 13 (.fa (.s 1) 2),
 vT 12 14 (.ld false 1 (.s 13)),
 ⟨some (12, true), some 15, .inr (.fn 131 [(.s 14), (vi 0), (vi 2048)])⟩,
 vP 16 (.pick (.s 12) (.s 15) (.c (.bool false))),
 vM 3 16])
 (.seq (.region [vM 17 3,
 vM 18 17,
 vT 18 19 (.fa (.s 1) 3),
 vT 18 20 (.ld false 1 (.s 19)),
 vT 18 21 (.fa (.s 1) 4),
 vT 18 22 (.ld false 1 (.s 21)),
 ⟨some (18, true), some 23, .inr (.fn 131 [(.s 20), (.c (.int .i64 (-100000))), (.s 22)])⟩,
 vP 24 (.pick (.s 18) (.s 23) (.c (.bool false))),
 vM 25 24,
 vT 25 26 (.fa (.s 1) 4),
 vT 25 27 (.ld false 1 (.s 26)),
 vT 25 28 (vc .leq 27 100000),
 vP 29 (.pick (.s 25) (.s 28) (.c (.bool false))),
 vM 2 29])
 (.ret)))
def k102 : Cd :=
  .seq (.region [vP 3 (.box 65 2 (.s 0)),
 vP 6 (.mv (vi 0))])
 (.seq (.seq (.region [vP 9 (.ld true 2 (.s 3)),
 vN 10 84 [(.s 9)],
 vM 7 10])
 (.seq (.region [vM 11 7,
 vP 12 (vc .neq 11 0)])
 (.cond (.s 12) (.seq (.region [vM 13 7,
 vM 6 13])
 (.ret))
 (.skip))))
 (.seq (.region [vP 14 (.ld true 2 (.s 3)),
 vN 15 85 [(.s 14)],
 vM 8 15])
 (.seq (.seq (.region [vM 16 8,
 vM 17 1,
 vN 18 87 [(.s 16), (.s 17)],
 vP 19 (.not (.s 18)),
 vM 20 19,
 vU 20 21 (.mv (.s 8)),
 vU 20 22 (.mv (.s 2)),
 ⟨some (20, false), some 23, .inr (.fn 87 [(.s 21), (.s 22)])⟩,
 vU 20 24 (.not (.s 23)),
 vP 25 (.pick (.s 20) (.c (.bool true)) (.s 24))])
 (.cond (.s 25) (.seq (.region [vP 6 (.mv (vi 3))])
 (.ret))
 (.skip)))
 (.seq (.region [vP 6 (.mv (vi 0))])
 (.ret)))))
def k103 : Cd :=
  .seq (.region [vP 2 (.box 65 2 (.s 0)),
 vP 3 (.box 143 1 (.s 1))])
 (.seq (.region [vP 4 (.alloc 180 [.nilFunc])])
 (.seq (.region [vP 5 (.mkf (.func 132) [] [(.s 2), (.s 3), (.s 4)]),
 ⟨none, none, .inl (.st 1 (.s 4) (.s 5))⟩])
 (.region [vL 6 1 4,
 ⟨none, some 7, .inr (.val false (.s 6) [(.c (.slice none 0 0))])⟩])))
def k104 : Cd :=
  .seq (.region [vP 7 (.mv (.c (.bool false)))])
 (.seq (.region [vM 9 1,
 vL 10 1 2,
 vL 11 1 3,
 vN 12 105 [(.s 9), (.s 10), (.s 11)],
 vP 8 (.alloc 55 [(.int .i64 0), (.int .i64 0)]),
 ⟨none, none, .inl (.st 2 (.s 8) (.s 12))⟩])
 (.seq (.region [vL 13 1 4,
 vP 14 (.ld true 2 (.s 8)),
 vP 15 (.bs 55 2 1 [(.int .i64 0), (.int .i64 0)] [(0, (.s 14))]),
 vP 16 (.app 55 2 16 (.s 13) (.s 15)),
 ⟨none, none, .inl (.st 1 (.s 4) (.s 16))⟩])
 (.seq (.region [vL 17 1 2,
 vL 18 1 3,
 vP 19 (vb .neq 17 18),
 vM 20 19,
 vT 20 21 (.ld true 2 (.s 8)),
 vT 20 22 (.ld true 2 (.g 0)),
 vT 20 23 (.eq true (.cells [.int, .int]) (.s 21) (.s 22)),
 vP 24 (.pick (.s 20) (.s 23) (.c (.bool false))),
 vM 7 24])
 (.ret))))
def k105 : Cd :=
  .seq (.region [vP 6 (.alloc 55 [(.int .i64 0), (.int .i64 0)])])
 (.seq (.seq (.region [vM 10 1,
 vM 11 2,
 vP 12 (vb .eql 10 11)])
 (.cond (.s 12) (.seq (.region [vP 13 (.bld [(.int .i64 0), (.int .i64 0)] []),
 ⟨none, none, .inl (.st 2 (.s 6) (.s 13))⟩])
 (.ret))
 (.skip)))
 (.seq (.region [vM 15 0,
 vM 16 1,
 vM 17 2,
 vN 18 135 [(.s 15), (.s 16), (.s 17)],
 vM 14 18,
 vP 19 (.ex (.s 14) 0),
 vP 20 (.ex (.s 14) 1),
 vP 21 (.ex (.s 14) 2),
 vM 7 19,
 vM 8 20,
 vM 9 21])
 (.seq (.seq (.region [vM 22 9,
 vP 23 (vc .neq 22 0)])
 (.cond (.s 23) (.seq (.region [vP 24 (.ld true 2 (.g 0)),
 ⟨none, none, .inl (.st 2 (.s 6) (.s 24))⟩])
 (.ret))
 (.skip)))
 (.seq (.region [vM 25 7,
 vM 26 8,
 vP 27 (.bld [(.int .i64 0), (.int .i64 0)] [(0, 1, (.s 25)), (1, 1, (.s 26))]),
 ⟨none, none, .inl (.st 2 (.s 6) (.s 27))⟩])
 (.ret)))))
def k106l0 : Cd :=
  .seq (.region [vP 12 (vb .lss 11 10)])
 (.seq (.cond (.s 12) (.skip)
 (.exit 0))
 (.seq (.block 1 (.seq (.region [vI 13 2 9 11,
 vP 14 (.ld true 2 (.s 13)),
 vP 5 (.alloc 55 [(.int .i64 0), (.int .i64 0)]),
 ⟨none, none, .inl (.st 2 (.s 5) (.s 14))⟩])
 (.seq (.region [vM 15 3,
 vP 16 (.len (.s 15)),
 vP 17 (vc .sub 16 1),
 vM 6 17])
 (.seq (.draw [vD (vM 18 6) 0,
 vD (vP 19 (vc .geq 18 0)) 1,
 vD (vM 20 19) 3,
 vD (vT 20 21 (.fa (.s 5) 0)) 7,
 vD (vT 20 22 (.ld false 1 (.s 21))) 15,
 vD (vT 20 23 (.mv (.s 3))) 7,
 vD (vT 20 24 (.mv (.s 6))) 7,
 vD (vT 20 25 (.ias 2 (.s 23) (.s 24))) 103,
 vD (vT 20 26 (.fa (.s 25) 1)) 231,
 vD (vT 20 27 (.ld false 1 (.s 26))) 487,
 vD (vT 20 28 (vc .add 27 1)) 999,
 vD (vT 20 29 (vb .leq 22 28)) 2047,
 vD (vP 30 (.pick (.s 20) (.s 29) (.c (.bool false)))) 4095])
 (.cond (.s 30) (.draw [vD (vM 31 3) 0,
 vD (vM 32 6) 0,
 vD (vM 33 3) 0,
 vD (vM 34 6) 0,
 vD (vI 35 2 33 34) 12,
 vD (vF 36 35 1) 28,
 vD (vL 37 1 36) 60,
 vD (vF 38 5 1) 0,
 vD (vL 39 1 38) 128,
 vD (vP 40 (.mm true (.s 37) (.s 39))) 508,
 vD (vI 41 2 31 32) 1023,
 vD (vF 42 41 1) 2047,
 ⟨⟨none, none, .inl (.st 1 (.s 42) (.s 40))⟩, (some [.at 3]), [], 4095, false⟩])
 (.region [vM 43 3,
 vP 44 (.ld true 2 (.s 5)),
 vP 45 (.bs 55 2 1 [(.int .i64 0), (.int .i64 0)] [(0, (.s 44))]),
 vP 46 (.app 55 2 16 (.s 43) (.s 45)),
 vM 3 46]))))))
 (.region [vP 47 (vc .add 11 1),
 vM 11 47])))
def k106 : Cd :=
  .seq (.region [vP 2 (.mv (.c (.slice none 0 0)))])
 (.seq (.region [vM 7 0,
 vN 8 136 [(.s 7), (.f 137)]])
 (.seq (.region [vP 3 (.mv (.c (.slice none 0 0)))])
 (.seq (.seq (.region [vM 9 0,
 vP 10 (.len (.s 9)),
 vP 11 (.mv (vi 0))])
 (.block 0 (.loop k106l0)))
 (.seq (.region [vM 48 3,
 vM 2 48])
 (.ret)))))
def k107l0 : Cd :=
  .seq (.region [vP 12 (vb .lss 11 10)])
 (.seq (.cond (.s 12) (.skip)
 (.exit 0))
 (.seq (.block 1 (.seq (.region [vI 13 5 9 11,
 vP 14 (.ld true 5 (.s 13)),
 vP 4 (.alloc 61 [(.int .i64 0), (.int .i64 0), (.int .i64 0), (.int .i64 0), (.int .i64 0)]),
 ⟨none, none, .inl (.st 5 (.s 4) (.s 14))⟩])
 (.seq (.region [vP 15 (.ld true 5 (.s 4)),
 vN 16 138 [(.s 15)],
 vM 5 16])
 (.seq (.region [vM 17 5,
 vP 18 (vc .neq 17 0)])
 (.cond (.s 18) (.seq (.region [vM 19 5,
 vM 2 19])
 (.ret))
 (.skip))))))
 (.region [vP 20 (vc .add 11 1),
 vM 11 20])))
end Go.Proofs.YtngjpeoloaeneaaGreatDoor
