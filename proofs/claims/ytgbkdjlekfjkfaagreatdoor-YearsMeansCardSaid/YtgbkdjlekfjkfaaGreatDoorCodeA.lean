/- The small code of the functions of this program, as its own reader reads them: part A. -/
import Derived.Test.YtgbkdjlekfjkfaaGreatDoorEmR
namespace Go.Proofs.YtgbkdjlekfjkfaaGreatDoor
open Go Go.Em
set_option maxRecDepth 100000
@[simp] abbrev vM (d x : Nat) : G := ⟨none, some d, .inl (.mv (.s x))⟩
@[simp] abbrev vL (d n x : Nat) : G := ⟨none, some d, .inl (.ld false n (.s x))⟩
@[simp] abbrev vF (d x o : Nat) : G := ⟨none, some d, .inl (.fa (.s x) o)⟩
@[simp] abbrev vI (d n x i : Nat) : G := ⟨none, some d, .inl (.ias n (.s x) (.s i))⟩
@[simp] abbrev vi (n : Int) : X := .c (.int .i64 n)
@[simp] abbrev vb (o : BinOp) (a b : Nat) : M := .bin o (.s a) (.s b)
@[simp] abbrev vc (o : BinOp) (a : Nat) (n : Int) : M := .bin o (.s a) (.c (.int .i64 n))
@[simp] abbrev vP (d : Nat) (m : M) : G := ⟨none, some d, .inl m⟩
@[simp] abbrev vT (g d : Nat) (m : M) : G := ⟨some (g, true), some d, .inl m⟩
@[simp] abbrev vU (g d : Nat) (m : M) : G := ⟨some (g, false), some d, .inl m⟩
@[simp] abbrev vN (d : Nat) (f : FuncId) (l : List X) : G := ⟨none, some d, .inr (.fn f l)⟩
@[simp] abbrev vD (g : G) (n : Nat) : DG := ⟨g, some [], [], n, false⟩
def k6 : Cd :=
  .seq (.region [vP 3 (.box 48 2 (.s 0)),
 vP 4 (.box 48 2 (.s 1)),
 vP 5 (.box 49 4 (.s 2)),
 vP 6 (.mv (.c (.bool false)))])
 (.seq (.region [vF 18 3 0,
 vL 19 1 18,
 vF 20 3 1,
 vL 21 1 20,
 vN 22 24 [(.s 19), (.s 21)],
 vM 17 22,
 vP 23 (.ex (.s 17) 0),
 vP 24 (.ex (.s 17) 1),
 vP 7 (.alloc 48 [(.int .i64 0), (.int .i64 0)]),
 ⟨none, none, .inl (.st 2 (.s 7) (.s 23))⟩,
 vM 8 24])
 (.seq (.region [vF 26 3 0,
 vL 27 1 26,
 vF 28 3 1,
 vL 29 1 28,
 vN 30 25 [(.s 27), (.s 29)],
 vM 25 30,
 vP 31 (.ex (.s 25) 0),
 vP 32 (.ex (.s 25) 1),
 vP 9 (.alloc 48 [(.int .i64 0), (.int .i64 0)]),
 ⟨none, none, .inl (.st 2 (.s 9) (.s 31))⟩,
 vM 10 32])
 (.seq (.region [vP 34 (.iaa 4 1 (.s 5) (vi 0)),
 vL 35 1 34,
 vP 36 (.iaa 4 1 (.s 5) (vi 1)),
 vL 37 1 36,
 vP 38 (.iaa 4 1 (.s 5) (vi 2)),
 vL 39 1 38,
 vP 40 (.iaa 4 1 (.s 5) (vi 3)),
 vL 41 1 40,
 vN 42 26 [(.s 35), (.s 37), (.s 39), (.s 41)],
 vM 33 42,
 vP 43 (.ex (.s 33) 0),
 vP 44 (.ex (.s 33) 1),
 vP 45 (.ex (.s 33) 2),
 vP 11 (.alloc 48 [(.int .i64 0), (.int .i64 0)]),
 vP 12 (.alloc 48 [(.int .i64 0), (.int .i64 0)]),
 ⟨none, none, .inl (.st 2 (.s 11) (.s 43))⟩,
 ⟨none, none, .inl (.st 2 (.s 12) (.s 44))⟩,
 vM 13 45])
 (.seq (.region [vP 47 (.iaa 4 1 (.s 5) (vi 0)),
 vL 48 1 47,
 vP 49 (.iaa 4 1 (.s 5) (vi 1)),
 vL 50 1 49,
 vP 51 (.iaa 4 1 (.s 5) (vi 2)),
 vL 52 1 51,
 vP 53 (.iaa 4 1 (.s 5) (vi 3)),
 vL 54 1 53,
 vN 55 27 [(.s 48), (.s 50), (.s 52), (.s 54)],
 vM 46 55,
 vP 56 (.ex (.s 46) 0),
 vP 57 (.ex (.s 46) 1),
 vP 58 (.ex (.s 46) 2),
 vP 14 (.alloc 48 [(.int .i64 0), (.int .i64 0)]),
 vP 15 (.alloc 48 [(.int .i64 0), (.int .i64 0)]),
 ⟨none, none, .inl (.st 2 (.s 14) (.s 56))⟩,
 ⟨none, none, .inl (.st 2 (.s 15) (.s 57))⟩,
 vM 16 58])
 (.seq (.draw [vD (vP 59 (.ld true 2 (.s 7))) 0,
 vD (vP 60 (.ld true 2 (.s 9))) 0,
 vD (vP 61 (.eq false (.cells [.int, .int]) (.s 59) (.s 60))) 3,
 vD (vM 62 61) 7,
 vD (vT 62 63 (.mv (.s 8))) 15,
 vD (vT 62 64 (.mv (.s 10))) 15,
 vD (vT 62 65 (vb .eql 63 64)) 63,
 vD (vP 66 (.pick (.s 62) (.s 65) (.c (.bool false)))) 127,
 vD (vM 67 66) 255,
 vD (vT 67 68 (.ld true 2 (.s 11))) 511,
 vD (vT 67 69 (.ld true 2 (.s 14))) 511,
 vD (vT 67 70 (.eq false (.cells [.int, .int]) (.s 68) (.s 69))) 2047,
 vD (vP 71 (.pick (.s 67) (.s 70) (.c (.bool false)))) 4095,
 vD (vM 72 71) 8191,
 vD (vT 72 73 (.ld true 2 (.s 12))) 16383,
 vD (vT 72 74 (.ld true 2 (.s 15))) 16383,
 vD (vT 72 75 (.eq false (.cells [.int, .int]) (.s 73) (.s 74))) 65535,
 vD (vP 76 (.pick (.s 72) (.s 75) (.c (.bool false)))) 131071,
 vD (vM 77 76) 262143,
 vD (vT 77 78 (.mv (.s 13))) 524287,
 vD (vT 77 79 (.mv (.s 16))) 524287,
 vD (vT 77 80 (vb .eql 78 79)) 2097151,
 vD (vP 81 (.pick (.s 77) (.s 80) (.c (.bool false)))) 4194303,
 vD (vM 82 81) 8388607,
 vD (vT 82 83 (.ld true 2 (.s 3))) 16777215,
 vD (vT 82 84 (.ld true 2 (.s 4))) 16777215,
 ⟨⟨some (82, true), some 85, .inr (.fn 28 [(.s 83), (.s 84)])⟩, some [], [], 67108863, false⟩,
 vD (vT 82 86 (.ld true 2 (.s 3))) 16777215,
 vD (vT 82 87 (.ld true 2 (.s 4))) 16777215,
 ⟨⟨some (82, true), some 88, .inr (.fn 29 [(.s 86), (.s 87)])⟩, some [], [], 536870911, false⟩,
 vD (vT 82 89 (vb .eql 85 88)) 1073741823,
 vD (vP 90 (.pick (.s 82) (.s 89) (.c (.bool false)))) 2147483647,
 vD (vM 91 90) 4294967295,
 ⟨⟨some (91, true), some 92, .inr (.fn 30 [])⟩, some [], [], 8589934591, false⟩,
 vD (vP 93 (.pick (.s 91) (.s 92) (.c (.bool false)))) 17179869183,
 vD (vM 6 93) 34359738367])
 (.ret))))))
def k7 : Cd :=
  .seq (.region [vP 4 (.mv (.c (.bool false)))])
 (.seq (.region [vM 20 0,
 vN 21 31 [(.s 20)],
 vM 19 21,
 vP 22 (.ex (.s 19) 0),
 vP 23 (.ex (.s 19) 1),
 vP 5 (.alloc 48 [(.int .i64 0), (.int .i64 0)]),
 ⟨none, none, .inl (.st 2 (.s 5) (.s 22))⟩,
 vM 6 23])
 (.seq (.region [vM 25 0,
 vN 26 32 [(.s 25)],
 vM 24 26,
 vP 27 (.ex (.s 24) 0),
 vP 28 (.ex (.s 24) 1),
 vP 7 (.alloc 48 [(.int .i64 0), (.int .i64 0)]),
 ⟨none, none, .inl (.st 2 (.s 7) (.s 27))⟩,
 vM 8 28])
 (.seq (.region [vM 30 0,
 vM 31 1,
 vN 32 33 [(.s 30), (.s 31)],
 vM 29 32,
 vP 33 (.ex (.s 29) 0),
 vP 34 (.ex (.s 29) 1),
 vM 9 33,
 vM 10 34])
 (.seq (.region [vM 36 0,
 vM 37 1,
 vN 38 34 [(.s 36), (.s 37)],
 vM 35 38,
 vP 39 (.ex (.s 35) 0),
 vP 40 (.ex (.s 35) 1),
 vM 11 39,
 vM 12 40])
 (.seq (.region [vM 42 0,
 vM 43 1,
 vN 44 35 [(.s 42), (.s 43)],
 vM 41 44,
 vP 45 (.ex (.s 41) 0),
 vP 46 (.ex (.s 41) 1),
 vP 47 (.ex (.s 41) 2),
 vP 14 (.alloc 48 [(.int .i64 0), (.int .i64 0)]),
 vM 13 45,
 ⟨none, none, .inl (.st 2 (.s 14) (.s 46))⟩,
 vM 15 47])
 (.seq (.region [vM 49 0,
 vM 50 1,
 vN 51 36 [(.s 49), (.s 50)],
 vM 48 51,
 vP 52 (.ex (.s 48) 0),
 vP 53 (.ex (.s 48) 1),
 vP 54 (.ex (.s 48) 2),
 vP 17 (.alloc 48 [(.int .i64 0), (.int .i64 0)]),
 vM 16 52,
 ⟨none, none, .inl (.st 2 (.s 17) (.s 53))⟩,
 vM 18 54])
 (.seq (.region [vP 55 (.ld true 2 (.s 5)),
 vP 56 (.ld true 2 (.s 7)),
 vP 57 (.eq false (.cells [.int, .int]) (.s 55) (.s 56)),
 vM 58 57,
 vT 58 59 (.mv (.s 6)),
 vT 58 60 (.mv (.s 8)),
 vT 58 61 (vb .eql 59 60),
 vP 62 (.pick (.s 58) (.s 61) (.c (.bool false))),
 vM 63 62,
 vT 63 64 (.mv (.s 9)),
 vT 63 65 (.mv (.s 11)),
 ⟨some (63, true), some 66, .inr (.fn 37 [(.s 64), (.s 65)])⟩,
 vP 67 (.pick (.s 63) (.s 66) (.c (.bool false))),
 vM 68 67,
 vT 68 69 (.mv (.s 10)),
 vT 68 70 (.mv (.s 12)),
 vT 68 71 (vb .eql 69 70),
 vP 72 (.pick (.s 68) (.s 71) (.c (.bool false))),
 vM 73 72,
 vT 73 74 (.mv (.s 13)),
 vT 73 75 (.mv (.s 16)),
 vT 73 76 (vb .eql 74 75),
 vP 77 (.pick (.s 73) (.s 76) (.c (.bool false))),
 vM 78 77,
 vT 78 79 (.ld true 2 (.s 14)),
 vT 78 80 (.ld true 2 (.s 17)),
 vT 78 81 (.eq false (.cells [.int, .int]) (.s 79) (.s 80)),
 vP 82 (.pick (.s 78) (.s 81) (.c (.bool false))),
 vM 83 82,
 vT 83 84 (.mv (.s 15)),
 vT 83 85 (.mv (.s 18)),
 vT 83 86 (vb .eql 84 85),
 vP 87 (.pick (.s 83) (.s 86) (.c (.bool false))),
 vM 88 87,
 ⟨some (88, true), some 89, .inr (.fn 30 [])⟩,
 vP 90 (.pick (.s 88) (.s 89) (.c (.bool false))),
 vM 4 90])
 (.ret))))))))
def k8 : Cd :=
  .seq (.region [vP 2 (.mv (.c (.slice none 0 0))),
 vP 3 (.mv (vi 0))])
 (.seq (.seq (.region [vM 5 0,
 vN 6 38 [(.s 5)],
 vM 4 6])
 (.seq (.region [vM 7 4,
 vP 8 (vc .neq 7 0)])
 (.cond (.s 8) (.seq (.region [vM 9 4,
 vP 2 (.mv (.c (.slice none 0 0))),
 vM 3 9])
 (.ret))
 (.skip))))
 (.seq (.region [vM 10 0,
 vN 11 39 [(.s 10), (.f 40)],
 vN 12 41 [(.s 11)],
 vM 2 12,
 vP 3 (.mv (vi 0))])
 (.ret)))
def k24 : Cd :=
  .seq (.region [vP 4 (.alloc 48 [(.int .i64 0), (.int .i64 0)]),
 vP 5 (.mv (vi 0))])
 (.seq (.seq (.region [vM 7 0,
 vN 8 81 [(.s 7), (.c (.int .i64 (-1000000000))), (vi 1000000000)],
 vP 9 (.not (.s 8)),
 vM 10 9,
 vU 10 11 (.mv (.s 1)),
 ⟨some (10, false), some 12, .inr (.fn 81 [(.s 11), (.c (.int .i64 (-1000000000))), (vi 1000000000)])⟩,
 vU 10 13 (.not (.s 12)),
 vP 14 (.pick (.s 10) (.c (.bool true)) (.s 13)),
 vM 15 14,
 vU 15 16 (.mv (.s 1)),
 vU 15 17 (vc .eql 16 0),
 vP 18 (.pick (.s 15) (.c (.bool true)) (.s 17))])
 (.cond (.s 18) (.seq (.region [vP 19 (.bld [(.int .i64 0), (.int .i64 0)] []),
 ⟨none, none, .inl (.st 2 (.s 4) (.s 19))⟩,
 vP 5 (.mv (vi 1))])
 (.ret))
 (.skip)))
 (.seq (.region [vM 20 0,
 vM 21 1,
 vN 22 82 [(.s 20), (.s 21)],
 vM 6 22])
 (.seq (.seq (.region [vM 23 1,
 vP 24 (vc .lss 23 0)])
 (.cond (.s 24) (.region [vM 25 6,
 vP 26 (.neg (.s 25)),
 vM 6 26])
 (.skip)))
 (.seq (.draw [vD (vM 27 0) 0,
 vD (vM 28 6) 0,
 vD (vP 29 (vb .quo 27 28)) 3,
 vD (vM 30 1) 0,
 vD (vM 31 6) 0,
 vD (vP 32 (vb .quo 30 31)) 24,
 vD (vP 33 (.bld [(.int .i64 0), (.int .i64 0)] [(0, 1, (.s 29)), (1, 1, (.s 32))])) 63,
 ⟨⟨none, none, .inl (.st 2 (.s 4) (.s 33))⟩, (some [.at 4]), [], 127, false⟩,
 vD (vP 5 (.mv (vi 0))) 255])
 (.ret)))))
def k25 : Cd :=
  .seq (.region [vP 4 (.alloc 48 [(.int .i64 0), (.int .i64 0)]),
 vP 5 (.mv (vi 0))])
 (.seq (.seq (.region [vM 7 0,
 vN 8 83 [(.s 7), (.c (.int .i64 (-1000000000))), (vi 1000000000)],
 vP 9 (.not (.s 8)),
 vM 10 9,
 vU 10 11 (.mv (.s 1)),
 ⟨some (10, false), some 12, .inr (.fn 83 [(.s 11), (.c (.int .i64 (-1000000000))), (vi 1000000000)])⟩,
 vU 10 13 (.not (.s 12)),
 vP 14 (.pick (.s 10) (.c (.bool true)) (.s 13)),
 vM 15 14,
 vU 15 16 (.mv (.s 1)),
 vU 15 17 (vc .eql 16 0),
 vP 18 (.pick (.s 15) (.c (.bool true)) (.s 17))])
 (.cond (.s 18) (.seq (.region [vP 19 (.bld [(.int .i64 0), (.int .i64 0)] []),
 ⟨none, none, .inl (.st 2 (.s 4) (.s 19))⟩,
 vP 5 (.mv (vi 1))])
 (.ret))
 (.skip)))
 (.seq (.seq (.region [vM 20 1,
 vP 21 (vc .lss 20 0)])
 (.cond (.s 21) (.seq (.region [vM 22 0,
 vP 23 (.neg (.s 22)),
 vM 0 23])
 (.region [vM 24 1,
 vP 25 (.neg (.s 24)),
 vM 1 25]))
 (.skip)))
 (.seq (.region [vM 26 0,
 vM 27 0,
 vP 28 (.neg (.s 27)),
 vP 29 (.mm true (.s 26) (.s 28)),
 vM 30 1,
 vN 31 84 [(.s 29), (.s 30)],
 vM 6 31])
 (.seq (.draw [vD (vM 32 0) 0,
 vD (vM 33 6) 0,
 vD (vP 34 (vb .quo 32 33)) 3,
 vD (vM 35 1) 0,
 vD (vM 36 6) 0,
 vD (vP 37 (vb .quo 35 36)) 24,
 vD (vP 38 (.bld [(.int .i64 0), (.int .i64 0)] [(0, 1, (.s 34)), (1, 1, (.s 37))])) 63,
 ⟨⟨none, none, .inl (.st 2 (.s 4) (.s 38))⟩, (some [.at 4]), [], 127, false⟩,
 vD (vP 5 (.mv (vi 0))) 255])
 (.ret)))))
def k26 : Cd :=
  .seq (.region [vP 8 (.alloc 48 [(.int .i64 0), (.int .i64 0)]),
 vP 9 (.alloc 48 [(.int .i64 0), (.int .i64 0)]),
 vP 10 (.mv (vi 0))])
 (.seq (.seq (.region [vM 11 0,
 vP 12 (vc .lss 11 0),
 vM 13 12,
 vU 13 14 (.mv (.s 0)),
 vU 13 15 (.mv (.s 1)),
 vU 13 16 (vb .gtr 14 15),
 vP 17 (.pick (.s 13) (.c (.bool true)) (.s 16)),
 vM 18 17,
 vU 18 19 (.mv (.s 1)),
 vU 18 20 (vc .gtr 19 1000000000),
 vP 21 (.pick (.s 18) (.c (.bool true)) (.s 20)),
 vM 22 21,
 vU 22 23 (.mv (.s 2)),
 vU 22 24 (vc .lss 23 1),
 vP 25 (.pick (.s 22) (.c (.bool true)) (.s 24)),
 vM 26 25,
 vU 26 27 (.mv (.s 2)),
 vU 26 28 (.mv (.s 3)),
 vU 26 29 (vb .gtr 27 28),
 vP 30 (.pick (.s 26) (.c (.bool true)) (.s 29)),
 vM 31 30,
 vU 31 32 (.mv (.s 3)),
 vU 31 33 (vc .gtr 32 1000000000),
 vP 34 (.pick (.s 31) (.c (.bool true)) (.s 33))])
 (.cond (.s 34) (.seq (.region [vP 35 (.bld [(.int .i64 0), (.int .i64 0)] []),
 vP 36 (.bld [(.int .i64 0), (.int .i64 0)] []),
 ⟨none, none, .inl (.st 2 (.s 8) (.s 35))⟩,
 ⟨none, none, .inl (.st 2 (.s 9) (.s 36))⟩,
 vP 10 (.mv (vi 1))])
 (.ret))
 (.skip)))
 (.seq (.region [vM 38 0,
 vM 39 3,
 vN 40 24 [(.s 38), (.s 39)],
 vM 37 40,
 vP 41 (.ex (.s 37) 0),
 vP 42 (.ex (.s 37) 1),
 ⟨none, none, .inl (.st 2 (.s 8) (.s 41))⟩])
 (.seq (.region [vM 44 1,
 vM 45 2,
 vN 46 24 [(.s 44), (.s 45)],
 vM 43 46,
 vP 47 (.ex (.s 43) 0),
 vP 48 (.ex (.s 43) 1),
 ⟨none, none, .inl (.st 2 (.s 9) (.s 47))⟩])
 (.seq (.draw [vD (vP 49 (.ld true 2 (.s 8))) 0,
 ⟨vP 50 (.ld true 2 (.s 9)), some [], [.at 8], 0, false⟩,
 ⟨⟨none, none, .inl (.st 2 (.s 8) (.s 49))⟩, (some [.at 8]), [], 1, false⟩,
 ⟨⟨none, none, .inl (.st 2 (.s 9) (.s 50))⟩, (some [.at 9]), [], 7, false⟩,
 vD (vP 10 (.mv (vi 0))) 15])
 (.ret)))))
def k27 : Cd :=
  .seq (.region [vP 8 (.alloc 48 [(.int .i64 0), (.int .i64 0)]),
 vP 9 (.alloc 48 [(.int .i64 0), (.int .i64 0)]),
 vP 10 (.mv (vi 0))])
 (.seq (.seq (.region [vM 15 0,
 vP 16 (vc .lss 15 0),
 vM 17 16,
 vU 17 18 (.mv (.s 0)),
 vU 17 19 (.mv (.s 1)),
 vU 17 20 (vb .gtr 18 19),
 vP 21 (.pick (.s 17) (.c (.bool true)) (.s 20)),
 vM 22 21,
 vU 22 23 (.mv (.s 1)),
 vU 22 24 (vc .gtr 23 1000000000),
 vP 25 (.pick (.s 22) (.c (.bool true)) (.s 24)),
 vM 26 25,
 vU 26 27 (.mv (.s 2)),
 vU 26 28 (vc .lss 27 1),
 vP 29 (.pick (.s 26) (.c (.bool true)) (.s 28)),
 vM 30 29,
 vU 30 31 (.mv (.s 2)),
 vU 30 32 (.mv (.s 3)),
 vU 30 33 (vb .gtr 31 32),
 vP 34 (.pick (.s 30) (.c (.bool true)) (.s 33)),
 vM 35 34,
 vU 35 36 (.mv (.s 3)),
 vU 35 37 (vc .gtr 36 1000000000),
 vP 38 (.pick (.s 35) (.c (.bool true)) (.s 37))])
 (.cond (.s 38) (.seq (.region [vP 39 (.bld [(.int .i64 0), (.int .i64 0)] []),
 vP 40 (.bld [(.int .i64 0), (.int .i64 0)] []),
 ⟨none, none, .inl (.st 2 (.s 8) (.s 39))⟩,
 ⟨none, none, .inl (.st 2 (.s 9) (.s 40))⟩,
 vP 10 (.mv (vi 1))])
 (.ret))
 (.skip)))
 (.seq (.region [vM 42 0,
 vM 43 3,
 vN 44 25 [(.s 42), (.s 43)],
 vM 41 44,
 vP 45 (.ex (.s 41) 0),
 vP 46 (.ex (.s 41) 1),
 vP 11 (.alloc 48 [(.int .i64 0), (.int .i64 0)]),
 ⟨none, none, .inl (.st 2 (.s 11) (.s 45))⟩,
 vM 12 46])
 (.seq (.region [vM 48 1,
 vM 49 2,
 vN 50 25 [(.s 48), (.s 49)],
 vM 47 50,
 vP 51 (.ex (.s 47) 0),
 vP 52 (.ex (.s 47) 1),
 vP 13 (.alloc 48 [(.int .i64 0), (.int .i64 0)]),
 ⟨none, none, .inl (.st 2 (.s 13) (.s 51))⟩,
 vM 14 52])
 (.seq (.draw [vD (vP 53 (.ld true 2 (.s 11))) 0,
 ⟨vP 54 (.ld true 2 (.s 13)), some [], [.at 8], 0, false⟩,
 ⟨⟨none, none, .inl (.st 2 (.s 8) (.s 53))⟩, (some [.at 8]), [], 1, false⟩,
 ⟨⟨none, none, .inl (.st 2 (.s 9) (.s 54))⟩, (some [.at 9]), [], 7, false⟩,
 vD (vP 10 (.mv (vi 0))) 15])
 (.ret)))))
def k28 : Cd :=
  .seq (.region [vP 2 (.box 48 2 (.s 0)),
 vP 3 (.box 48 2 (.s 1)),
 vP 4 (.mv (vi 0))])
 (.seq (.seq (.region [vP 5 (.ld true 2 (.s 2)),
 vN 6 85 [(.s 5)],
 vP 7 (.not (.s 6)),
 vM 8 7,
 vU 8 9 (.ld true 2 (.s 3)),
 ⟨some (8, false), some 10, .inr (.fn 85 [(.s 9)])⟩,
 vU 8 11 (.not (.s 10)),
 vP 12 (.pick (.s 8) (.c (.bool true)) (.s 11))])
 (.cond (.s 12) (.seq (.region [vP 4 (.mv (vi 0))])
 (.ret))
 (.skip)))
 (.seq (.region [vF 13 2 0,
 vL 14 1 13,
 vF 15 3 1,
 vL 16 1 15,
 vP 17 (vb .mul 14 16),
 vF 18 3 0,
 vL 19 1 18,
 vF 20 2 1,
 vL 21 1 20,
 vP 22 (vb .mul 19 21),
 vN 23 86 [(.s 17), (.s 22)],
 vM 4 23])
 (.ret)))
def k29 : Cd :=
  .seq (.region [vP 2 (.box 48 2 (.s 0)),
 vP 3 (.box 48 2 (.s 1)),
 vP 4 (.mv (vi 0))])
 (.seq (.seq (.region [vP 7 (.ld true 2 (.s 2)),
 vN 8 87 [(.s 7)],
 vP 9 (.not (.s 8)),
 vM 10 9,
 vU 10 11 (.ld true 2 (.s 3)),
 ⟨some (10, false), some 12, .inr (.fn 87 [(.s 11)])⟩,
 vU 10 13 (.not (.s 12)),
 vP 14 (.pick (.s 10) (.c (.bool true)) (.s 13))])
 (.cond (.s 14) (.seq (.region [vP 4 (.mv (vi 0))])
 (.ret))
 (.skip)))
 (.seq (.region [vF 15 2 0,
 vL 16 1 15,
 vF 17 3 1,
 vL 18 1 17,
 vP 19 (vb .mul 16 18),
 vM 5 19])
 (.seq (.region [vF 20 3 0,
 vL 21 1 20,
 vF 22 2 1,
 vL 23 1 22,
 vP 24 (vb .mul 21 23),
 vM 6 24])
 (.seq (.seq (.region [vM 25 5,
 vM 26 6,
 vP 27 (vb .lss 25 26)])
 (.cond (.s 27) (.seq (.region [vP 4 (.mv (.c (.int .i64 (-1))))])
 (.ret))
 (.skip)))
 (.seq (.seq (.region [vM 28 5,
 vM 29 6,
 vP 30 (vb .gtr 28 29)])
 (.cond (.s 30) (.seq (.region [vP 4 (.mv (vi 1))])
 (.ret))
 (.skip)))
 (.seq (.region [vP 4 (.mv (vi 0))])
 (.ret)))))))
def k30 : Cd :=
  .seq (.region [vP 0 (.mv (.c (.bool false)))])
 (.seq (.region [vP 16 (.bld [(.int .i64 0), (.int .i64 0), (.int .i64 0), (.int .i64 0), (.int .i64 0)] [(0, 1, (vi 0)), (1, 1, (vi 1)), (2, 1, (vi 5)), (3, 1, (vi 7)), (4, 1, (vi 1))]),
 vP 17 (.bld [(.int .i64 0), (.int .i64 0), (.int .i64 0), (.int .i64 0), (.int .i64 0)] [(0, 1, (vi 1)), (1, 1, (vi 2)), (2, 1, (vi 10)), (3, 1, (vi 10)), (4, 1, (vi 1))]),
 vP 18 (.bst 70 5 2 [(.int .i64 0), (.int .i64 0), (.int .i64 0), (.int .i64 0), (.int .i64 0)] [(0, (.s 16)), (1, (.s 17))]),
 vP 19 (.bld [(.slice none 0 0), (.slice none 0 0)] [(0, 1, (.s 18))]),
 vP 1 (.alloc 128 [(.slice none 0 0), (.slice none 0 0)]),
 ⟨none, none, .inl (.st 2 (.s 1) (.s 19))⟩])
 (.seq (.region [vP 20 (.bld [(.int .i64 0), (.int .i64 0), (.int .i64 0), (.int .i64 0), (.int .i64 0)] [(0, 1, (vi 1)), (2, 1, (vi 2)), (3, 1, (.c (.int .i64 (-1))))]),
 vP 2 (.alloc 130 [(.int .i64 0), (.int .i64 0), (.int .i64 0), (.int .i64 0), (.int .i64 0)]),
 ⟨none, none, .inl (.st 5 (.s 2) (.s 20))⟩])
 (.seq (.region [vP 21 (.bld [(.int .i64 0), (.int .i64 0), (.int .i64 0), (.int .i64 0), (.int .i64 0)] [(0, 1, (vi 2)), (2, 1, (vi 1)), (3, 1, (vi 9)), (4, 1, (vi 9))]),
 vP 3 (.alloc 130 [(.int .i64 0), (.int .i64 0), (.int .i64 0), (.int .i64 0), (.int .i64 0)]),
 ⟨none, none, .inl (.st 5 (.s 3) (.s 21))⟩])
 (.seq (.region [vP 23 (.ld true 2 (.s 1)),
 vP 24 (.ld true 5 (.s 2)),
 vN 25 88 [(.s 23), (.s 24), (vi 0)],
 vM 22 25,
 vP 26 (.ex (.s 22) 0),
 vP 27 (.ex (.s 22) 1),
 vM 4 26,
 vM 5 27])
 (.seq (.region [vP 29 (.ld true 2 (.s 1)),
 vP 30 (.ld true 5 (.s 2)),
 vP 31 (.ld true 5 (.s 3)),
 vN 32 89 [(.s 29), (.s 30), (.s 31)],
 vM 28 32,
 vP 33 (.ex (.s 28) 0),
 vP 34 (.ex (.s 28) 1),
 vP 6 (.alloc 135 [(.bool false), (.bool false), (.bool false)]),
 ⟨none, none, .inl (.st 3 (.s 6) (.s 33))⟩,
 vM 7 34])
 (.seq (.region [vP 36 (.ld true 2 (.s 1)),
 vP 37 (.ld true 5 (.s 2)),
 vP 38 (.ld true 5 (.s 3)),
 vP 39 (.bst 130 5 2 [(.int .i64 0), (.int .i64 0), (.int .i64 0), (.int .i64 0), (.int .i64 0)] [(0, (.s 37)), (1, (.s 38))]),
 vP 40 (.bld [(.int .i64 0), (.int .i64 0)] [(0, 1, (vi 14)), (1, 1, (vi 15))]),
 vN 41 90 [(.s 36), (.s 39), (vi 0), (.s 40)],
 vM 35 41,
 vP 42 (.ex (.s 35) 0),
 vP 43 (.ex (.s 35) 1),
 vP 44 (.ex (.s 35) 2),
 vM 8 42,
 vM 9 43,
 vM 10 44])
 (.seq (.region [vP 45 (.bld [(.int .i64 0), (.int .i64 0)] [(0, 1, (vi 1)), (1, 1, (vi 2))]),
 vP 46 (.bld [(.int .i64 0), (.int .i64 0)] [(0, 1, (vi 6)), (1, 1, (vi 6))]),
 vP 47 (.bst 141 2 2 [(.int .i64 0), (.int .i64 0)] [(0, (.s 45)), (1, (.s 46))]),
 vN 48 91 [(.s 47), (.c (.int .i64 (-1))), (vi 2)],
 vM 11 48])
 (.seq (.region [vP 50 (.bst 3 1 3 [(.int .i64 0)] [(0, (vi 3)), (1, (vi 4)), (2, (vi 9))]),
 vN 51 35 [(.s 50), (vi 2)],
 vM 49 51,
 vP 52 (.ex (.s 49) 0),
 vP 53 (.ex (.s 49) 1),
 vP 54 (.ex (.s 49) 2),
 vP 13 (.alloc 48 [(.int .i64 0), (.int .i64 0)]),
 vM 12 52,
 ⟨none, none, .inl (.st 2 (.s 13) (.s 53))⟩,
 vM 14 54])
 (.seq (.region [vM 55 5,
 vP 56 (vc .eql 55 0),
 vM 57 56,
 vT 57 58 (.mv (.s 7)),
 vT 57 59 (vc .eql 58 0),
 vP 60 (.pick (.s 57) (.s 59) (.c (.bool false))),
 vM 61 60,
 vT 61 62 (.mv (.s 10)),
 vT 61 63 (vc .eql 62 0),
 vP 64 (.pick (.s 61) (.s 63) (.c (.bool false))),
 vM 65 64,
 vT 65 66 (.mv (.s 14)),
 vT 65 67 (vc .eql 66 0),
 vP 68 (.pick (.s 65) (.s 67) (.c (.bool false))),
 vM 15 68])
 (.seq (.region [vM 69 15,
 vM 70 69,
 vT 70 71 (.mv (.s 4)),
 vT 70 72 (.bld [(.int .i64 0), (.int .i64 0)] [(0, 1, (vi 14)), (1, 1, (vi 17))]),
 vT 70 73 (.bst 141 2 1 [(.int .i64 0), (.int .i64 0)] [(0, (.s 72))]),
 ⟨some (70, true), some 74, .inr (.fn 92 [(.s 71), (.s 73)])⟩,
 vP 75 (.pick (.s 70) (.s 74) (.c (.bool false))),
 vM 76 75,
 vT 76 77 (.fa (.s 6) 0),
 vT 76 78 (.ld false 1 (.s 77)),
 vP 79 (.pick (.s 76) (.s 78) (.c (.bool false))),
 vM 80 79,
 vT 80 81 (.fa (.s 6) 1),
 vT 80 82 (.ld false 1 (.s 81)),
 vP 83 (.pick (.s 80) (.s 82) (.c (.bool false))),
 vM 84 83,
 vT 84 85 (.fa (.s 6) 2),
 vT 84 86 (.ld false 1 (.s 85)),
 vT 84 87 (.not (.s 86)),
 vP 88 (.pick (.s 84) (.s 87) (.c (.bool false))),
 vM 89 88,
 vT 89 90 (.mv (.s 8)),
 vT 89 91 (vc .eql 90 0),
 vP 92 (.pick (.s 89) (.s 91) (.c (.bool false))),
 vM 93 92,
 vT 93 94 (.mv (.s 9)),
 vT 93 95 (vc .eql 94 2),
 vP 96 (.pick (.s 93) (.s 95) (.c (.bool false))),
 vM 97 96,
 vT 97 98 (.mv (.s 11)),
 vT 97 99 (.bld [(.int .i64 0), (.int .i64 0)] [(0, 1, (vi 0)), (1, 1, (vi 8))]),
 vT 97 100 (.bst 141 2 1 [(.int .i64 0), (.int .i64 0)] [(0, (.s 99))]),
 ⟨some (97, true), some 101, .inr (.fn 92 [(.s 98), (.s 100)])⟩,
 vP 102 (.pick (.s 97) (.s 101) (.c (.bool false))),
 vM 103 102,
 vT 103 104 (.mv (.s 12)),
 vT 103 105 (vc .eql 104 1),
 vP 106 (.pick (.s 103) (.s 105) (.c (.bool false))),
 vM 107 106,
 vT 107 108 (.ld true 2 (.s 13)),
 vT 107 109 (.bld [(.int .i64 0), (.int .i64 0)] [(0, 1, (vi 13)), (1, 1, (vi 2))]),
 vT 107 110 (.eq false (.cells [.int, .int]) (.s 108) (.s 109)),
 vP 111 (.pick (.s 107) (.s 110) (.c (.bool false))),
 vM 0 111])
 (.ret)))))))))))
def k31l0 : Cd :=
  .seq (.region [vP 14 (vb .lss 13 12)])
 (.seq (.cond (.s 14) (.skip)
 (.exit 0))
 (.seq (.block 1 (.seq (.region [vI 15 1 11 13,
 vL 16 1 15,
 vM 6 16])
 (.region [vM 17 4,
 vM 18 6,
 vP 19 (vb .add 17 18),
 vM 4 19])))
 (.region [vP 20 (vc .add 13 1),
 vM 13 20])))
def k31 : Cd :=
  .seq (.region [vP 2 (.alloc 48 [(.int .i64 0), (.int .i64 0)]),
 vP 3 (.mv (vi 0))])
 (.seq (.seq (.region [vM 7 0,
 vN 8 93 [(.s 7)],
 vP 9 (.not (.s 8))])
 (.cond (.s 9) (.seq (.region [vP 10 (.bld [(.int .i64 0), (.int .i64 0)] []),
 ⟨none, none, .inl (.st 2 (.s 2) (.s 10))⟩,
 vP 3 (.mv (vi 62))])
 (.ret))
 (.skip)))
 (.seq (.region [vP 4 (.mv (vi 0))])
 (.seq (.seq (.region [vM 11 0,
 vP 12 (.len (.s 11)),
 vP 13 (.mv (vi 0))])
 (.block 0 (.loop k31l0)))
 (.seq (.region [vM 21 4,
 vM 22 0,
 vP 23 (.len (.s 22)),
 vN 24 24 [(.s 21), (.s 23)],
 vP 25 (.ex (.s 24) 0),
 vP 26 (.ex (.s 24) 1),
 ⟨none, none, .inl (.st 2 (.s 2) (.s 25))⟩,
 vM 3 26])
 (.ret)))))
def k32 : Cd :=
  .seq (.region [vP 2 (.alloc 48 [(.int .i64 0), (.int .i64 0)]),
 vP 3 (.mv (vi 0))])
 (.seq (.seq (.region [vM 5 0,
 vN 6 94 [(.s 5)],
 vP 7 (.not (.s 6))])
 (.cond (.s 7) (.seq (.region [vP 8 (.bld [(.int .i64 0), (.int .i64 0)] []),
 ⟨none, none, .inl (.st 2 (.s 2) (.s 8))⟩,
 vP 3 (.mv (vi 62))])
 (.ret))
 (.skip)))
 (.seq (.region [vM 9 0,
 vN 10 95 [(.s 9)],
 vP 4 (.alloc 48 [(.int .i64 0), (.int .i64 0)]),
 ⟨none, none, .inl (.st 2 (.s 4) (.s 10))⟩])
 (.seq (.region [vP 11 (.ld true 2 (.s 4)),
 ⟨none, none, .inl (.st 2 (.s 2) (.s 11))⟩,
 vP 3 (.mv (vi 0))])
 (.ret))))
def k33l0 : Cd :=
  .seq (.region [vP 24 (vb .lss 23 22)])
 (.seq (.cond (.s 24) (.skip)
 (.exit 0))
 (.seq (.block 1 (.seq (.region [vM 25 23,
 vM 7 25])
 (.seq (.region [vM 27 0,
 vM 28 7,
 vM 29 7,
 vM 30 1,
 vP 31 (vb .add 29 30),
 vP 32 (.slc 1 (.s 27) (some (.s 28)) (some (.s 31)) none),
 vN 33 31 [(.s 32)],
 vM 26 33,
 vP 34 (.ex (.s 26) 0),
 vP 35 (.ex (.s 26) 1),
 vP 8 (.alloc 48 [(.int .i64 0), (.int .i64 0)]),
 ⟨none, none, .inl (.st 2 (.s 8) (.s 34))⟩,
 vM 9 35])
 (.region [vM 36 6,
 vP 37 (.ld true 2 (.s 8)),
 vP 38 (.bs 48 2 1 [(.int .i64 0), (.int .i64 0)] [(0, (.s 37))]),
 vP 39 (.app 48 2 16 (.s 36) (.s 38)),
 vM 6 39]))))
 (.region [vP 40 (vc .add 23 1),
 vM 23 40])))
def k33 : Cd :=
  .seq (.region [vP 4 (.mv (.c (.slice none 0 0))),
 vP 5 (.mv (vi 0))])
 (.seq (.seq (.region [vM 10 0,
 vN 11 93 [(.s 10)],
 vP 12 (.not (.s 11))])
 (.cond (.s 12) (.seq (.region [vP 4 (.mv (.c (.slice none 0 0))),
 vP 5 (.mv (vi 62))])
 (.ret))
 (.skip)))
 (.seq (.seq (.region [vM 13 1,
 vM 14 0,
 vP 15 (.len (.s 14)),
 vN 16 81 [(.s 13), (vi 1), (.s 15)],
 vP 17 (.not (.s 16))])
 (.cond (.s 17) (.seq (.region [vP 4 (.mv (.c (.slice none 0 0))),
 vP 5 (.mv (vi 63))])
 (.ret))
 (.skip)))
 (.seq (.region [vP 6 (.mv (.c (.slice none 0 0)))])
 (.seq (.seq (.region [vM 18 0,
 vP 19 (.len (.s 18)),
 vM 20 1,
 vP 21 (vb .sub 19 20),
 vP 22 (vc .add 21 1),
 vP 23 (.mv (vi 0))])
 (.block 0 (.loop k33l0)))
 (.seq (.region [vM 41 6,
 vM 4 41,
 vP 5 (.mv (vi 0))])
 (.ret))))))
def k34l0 : Cd :=
  .seq (.seq (.region [vM 16 7,
 vM 17 1,
 vP 18 (vb .add 16 17),
 vM 19 0,
 vP 20 (.len (.s 19)),
 vP 21 (vb .leq 18 20)])
 (.cond (.s 21) (.skip)
 (.exit 0)))
 (.seq (.block 1 (.region [vM 24 6,
 vM 25 0,
 vM 26 7,
 vM 27 7,
 vM 28 1,
 vP 29 (vb .add 27 28),
 vP 30 (.slc 1 (.s 25) (some (.s 26)) (some (.s 29)) none),
 vN 31 95 [(.s 30)],
 vP 32 (.bs 48 2 1 [(.int .i64 0), (.int .i64 0)] [(0, (.s 31))]),
 vP 33 (.app 48 2 16 (.s 24) (.s 32)),
 vM 6 33]))
 (.region [vM 22 7,
 vP 23 (vc .add 22 1),
 vM 7 23]))
def k34 : Cd :=
  .seq (.region [vP 4 (.mv (.c (.slice none 0 0))),
 vP 5 (.mv (vi 0))])
 (.seq (.seq (.region [vM 8 0,
 vN 9 94 [(.s 8)],
 vP 10 (.not (.s 9))])
 (.cond (.s 10) (.seq (.region [vP 4 (.mv (.c (.slice none 0 0))),
 vP 5 (.mv (vi 62))])
 (.ret))
 (.skip)))
 (.seq (.seq (.region [vM 11 1,
 vM 12 0,
 vP 13 (.len (.s 12)),
 vN 14 83 [(.s 11), (vi 1), (.s 13)],
 vP 15 (.not (.s 14))])
 (.cond (.s 15) (.seq (.region [vP 4 (.mv (.c (.slice none 0 0))),
 vP 5 (.mv (vi 63))])
 (.ret))
 (.skip)))
 (.seq (.region [vP 6 (.mv (.c (.slice none 0 0)))])
 (.seq (.seq (.region [vP 7 (.mv (vi 0))])
 (.block 0 (.loop k34l0)))
 (.seq (.region [vM 34 6,
 vM 4 34,
 vP 5 (.mv (vi 0))])
 (.ret))))))
def k35 : Cd :=
  .seq (.region [vP 4 (.mv (vi 0)),
 vP 5 (.alloc 48 [(.int .i64 0), (.int .i64 0)]),
 vP 6 (.mv (vi 0))])
 (.seq (.region [vM 11 0,
 vM 12 1,
 vN 13 33 [(.s 11), (.s 12)],
 vM 10 13,
 vP 14 (.ex (.s 10) 0),
 vP 15 (.ex (.s 10) 1),
 vM 7 14,
 vM 8 15])
 (.seq (.seq (.region [vM 16 8,
 vP 17 (vc .neq 16 0)])
 (.cond (.s 17) (.seq (.region [vP 18 (.bld [(.int .i64 0), (.int .i64 0)] []),
 vM 19 8,
 vP 4 (.mv (vi 0)),
 ⟨none, none, .inl (.st 2 (.s 5) (.s 18))⟩,
 vM 6 19])
 (.ret))
 (.skip)))
 (.seq (.region [vM 20 7,
 vN 21 96 [(.s 20), (.f 28)],
 vP 9 (.alloc 48 [(.int .i64 0), (.int .i64 0)]),
 ⟨none, none, .inl (.st 2 (.s 9) (.s 21))⟩])
 (.seq (.draw [vD (vM 22 7) 0,
 vD (vP 23 (.ld true 2 (.s 9))) 0,
 vD (vN 24 97 [(.s 22), (.s 23)]) 3,
 vD (vP 25 (.ld true 2 (.s 9))) 0,
 vD (vM 4 24) 7,
 ⟨⟨none, none, .inl (.st 2 (.s 5) (.s 25))⟩, (some [.at 5]), [], 31, false⟩,
 vD (vP 6 (.mv (vi 0))) 63])
 (.ret)))))
def k36l0 : Cd :=
  .seq (.seq (.region [vM 21 10,
 vM 22 7,
 vP 23 (.len (.s 22)),
 vP 24 (vb .lss 21 23)])
 (.cond (.s 24) (.skip)
 (.exit 0)))
 (.seq (.block 1 (.seq (.draw [vD (vM 27 7) 0,
 vD (vM 28 10) 0,
 vD (vI 29 2 27 28) 3,
 vD (vP 30 (.ld true 2 (.s 29))) 7,
 vD (vM 31 7) 0,
 vD (vM 32 9) 0,
 vD (vI 33 2 31 32) 48,
 vD (vP 34 (.ld true 2 (.s 33))) 112,
 vD (vN 35 29 [(.s 30), (.s 34)]) 255,
 vD (vP 36 (vc .gtr 35 0)) 511])
 (.cond (.s 36) (.region [vM 37 10,
 vM 9 37])
 (.skip))))
 (.region [vM 25 10,
 vP 26 (vc .add 25 1),
 vM 10 26]))
def k36 : Cd :=
  .seq (.region [vP 4 (.mv (vi 0)),
 vP 5 (.alloc 48 [(.int .i64 0), (.int .i64 0)]),
 vP 6 (.mv (vi 0))])
 (.seq (.region [vM 12 0,
 vM 13 1,
 vN 14 34 [(.s 12), (.s 13)],
 vM 11 14,
 vP 15 (.ex (.s 11) 0),
 vP 16 (.ex (.s 11) 1),
 vM 7 15,
 vM 8 16])
 (.seq (.seq (.region [vM 17 8,
 vP 18 (vc .neq 17 0)])
 (.cond (.s 18) (.seq (.region [vP 19 (.bld [(.int .i64 0), (.int .i64 0)] []),
 vM 20 8,
 vP 4 (.mv (vi 0)),
 ⟨none, none, .inl (.st 2 (.s 5) (.s 19))⟩,
 vM 6 20])
 (.ret))
 (.skip)))
 (.seq (.region [vP 9 (.mv (vi 0))])
 (.seq (.seq (.region [vP 10 (.mv (vi 1))])
 (.block 0 (.loop k36l0)))
 (.seq (.draw [vD (vM 38 9) 0,
 vD (vM 39 7) 0,
 vD (vM 40 9) 0,
 vD (vI 41 2 39 40) 6,
 vD (vP 42 (.ld true 2 (.s 41))) 14,
 vD (vM 4 38) 1,
 ⟨⟨none, none, .inl (.st 2 (.s 5) (.s 42))⟩, (some [.at 5]), [], 63, false⟩,
 vD (vP 6 (.mv (vi 0))) 127])
 (.ret))))))
def k37l0 : Cd :=
  .seq (.seq (.region [vM 11 5,
 vM 12 0,
 vP 13 (.len (.s 12)),
 vP 14 (vb .lss 11 13)])
 (.cond (.s 14) (.skip)
 (.exit 0)))
 (.seq (.block 1 (.seq (.draw [vD (vM 17 0) 0,
 vD (vM 18 5) 0,
 vD (vI 19 2 17 18) 3,
 vD (vP 20 (.ld true 2 (.s 19))) 7,
 vD (vM 21 1) 0,
 vD (vM 22 5) 0,
 vD (vI 23 2 21 22) 48,
 vD (vP 24 (.ld true 2 (.s 23))) 112,
 vD (vP 25 (.eq true (.cells [.int, .int]) (.s 20) (.s 24))) 255])
 (.cond (.s 25) (.seq (.region [vP 4 (.mv (.c (.bool false)))])
 (.ret))
 (.skip))))
 (.region [vM 15 5,
 vP 16 (vc .add 15 1),
 vM 5 16]))
def k37 : Cd :=
  .seq (.region [vP 4 (.mv (.c (.bool false)))])
 (.seq (.seq (.region [vM 6 0,
 vP 7 (.len (.s 6)),
 vM 8 1,
 vP 9 (.len (.s 8)),
 vP 10 (vb .neq 7 9)])
 (.cond (.s 10) (.seq (.region [vP 4 (.mv (.c (.bool false)))])
 (.ret))
 (.skip)))
 (.seq (.seq (.region [vP 5 (.mv (vi 0))])
 (.block 0 (.loop k37l0)))
 (.seq (.region [vP 4 (.mv (.c (.bool true)))])
 (.ret))))
def k38l0 : Cd :=
  .seq (.region [vP 12 (vb .lss 11 10)])
 (.seq (.cond (.s 12) (.skip)
 (.exit 0))
 (.seq (.block 1 (.seq (.region [vI 13 5 9 11,
 vP 14 (.ld true 5 (.s 13)),
 vP 4 (.alloc 70 [(.int .i64 0), (.int .i64 0), (.int .i64 0), (.int .i64 0), (.int .i64 0)]),
 ⟨none, none, .inl (.st 5 (.s 4) (.s 14))⟩])
 (.seq (.region [vP 15 (.ld true 5 (.s 4)),
 vN 16 98 [(.s 15)],
 vM 5 16])
 (.seq (.region [vM 17 5,
 vP 18 (vc .neq 17 0)])
 (.cond (.s 18) (.seq (.region [vM 19 5,
 vM 2 19])
 (.ret))
 (.skip))))))
 (.region [vP 20 (vc .add 11 1),
 vM 11 20])))
def k38 : Cd :=
  .seq (.region [vP 2 (.mv (vi 0))])
 (.seq (.seq (.region [vM 6 0,
 vP 7 (.len (.s 6)),
 vP 8 (vc .gtr 7 400)])
 (.cond (.s 8) (.seq (.region [vP 2 (.mv (vi 2))])
 (.ret))
 (.skip)))
 (.seq (.seq (.region [vM 9 0,
 vP 10 (.len (.s 9)),
 vP 11 (.mv (vi 0))])
 (.block 0 (.loop k38l0)))
 (.seq (.seq (.region [vM 21 0,
 vN 22 99 [(.s 21)],
 vP 23 (.len (.s 22)),
 vP 24 (vc .gtr 23 64)])
 (.cond (.s 24) (.seq (.region [vP 2 (.mv (vi 2))])
 (.ret))
 (.skip)))
 (.seq (.region [vP 2 (.mv (vi 0))])
 (.ret)))))
def k39l0 : Cd :=
  .seq (.region [vP 19 (vb .lss 18 17)])
 (.seq (.cond (.s 19) (.skip)
 (.exit 0))
 (.seq (.block 1 (.seq (.region [vM 20 18,
 vI 21 5 16 18,
 vP 22 (.ld true 5 (.s 21)),
 vP 7 (.alloc 70 [(.int .i64 0), (.int .i64 0), (.int .i64 0), (.int .i64 0), (.int .i64 0)]),
 vM 6 20,
 ⟨none, none, .inl (.st 5 (.s 7) (.s 22))⟩])
 (.seq (.region [vM 23 1,
 vM 24 6,
 ⟨none, some 25, .inr (.val false (.s 23) [(.s 24)])⟩])
 (.cond (.s 25) (.region [vM 26 5,
 vP 27 (.ld true 5 (.s 7)),
 vP 28 (.bs 70 5 1 [(.int .i64 0), (.int .i64 0), (.int .i64 0), (.int .i64 0), (.int .i64 0)] [(0, (.s 27))]),
 vP 29 (.app 70 5 40 (.s 26) (.s 28)),
 vM 5 29])
 (.skip)))))
 (.region [vP 30 (vc .add 18 1),
 vM 18 30])))
def k39l1 : Cd :=
  .seq (.region [vP 41 (vb .lss 40 39)])
 (.seq (.cond (.s 41) (.skip)
 (.exit 2))
 (.seq (.block 3 (.seq (.region [vM 42 40,
 vI 43 5 38 40,
 vP 44 (.ld true 5 (.s 43)),
 vP 10 (.alloc 70 [(.int .i64 0), (.int .i64 0), (.int .i64 0), (.int .i64 0), (.int .i64 0)]),
 vM 9 42,
 ⟨none, none, .inl (.st 5 (.s 10) (.s 44))⟩])
 (.seq (.seq (.region [vM 45 1,
 vM 46 9,
 ⟨none, some 47, .inr (.val false (.s 45) [(.s 46)])⟩,
 vP 48 (.not (.s 47))])
 (.cond (.s 48) (.exit 3)
 (.skip)))
 (.seq (.draw [vD (vF 49 8 0) 0,
 vD (vL 50 1 49) 1,
 vD (vF 51 10 0) 0,
 vD (vL 52 1 51) 4,
 vD (vN 53 100 [(.s 50), (.s 52)]) 15,
 vD (vF 54 8 0) 0,
 vD (vL 55 1 54) 32,
 vD (vF 56 10 1) 0,
 vD (vL 57 1 56) 128,
 vD (vN 58 100 [(.s 55), (.s 57)]) 511,
 vD (vM 11 53) 1023,
 vD (vM 12 58) 2047])
 (.region [vF 59 8 1,
 vL 60 1 59,
 vM 61 9,
 vP 62 (.bld [(.int .i64 0), (.bool false)] [(0, 1, (.s 61))]),
 vM 63 11,
 vM 64 12,
 vF 65 10 3,
 vL 66 1 65,
 vP 67 (.bld [(.int .i64 0), (.bool false), (.int .i64 0), (.int .i64 0), (.int .i64 0)] [(0, 2, (.s 62)), (2, 1, (.s 63)), (3, 1, (.s 64)), (4, 1, (.s 66))]),
 vM 68 9,
 vP 69 (.bld [(.int .i64 0), (.bool false)] [(0, 1, (.s 68)), (1, 1, (.c (.bool true)))]),
 vM 70 12,
 vM 71 11,
 vF 72 10 2,
 vL 73 1 72,
 vP 74 (.neg (.s 73)),
 vP 75 (.bld [(.int .i64 0), (.bool false), (.int .i64 0), (.int .i64 0), (.int .i64 0)] [(0, 2, (.s 69)), (2, 1, (.s 70)), (3, 1, (.s 71)), (4, 1, (.s 74))]),
 vP 76 (.bs 148 5 2 [(.int .i64 0), (.bool false), (.int .i64 0), (.int .i64 0), (.int .i64 0)] [(0, (.s 67)), (1, (.s 75))]),
 vP 77 (.app 148 5 40 (.s 60) (.s 76)),
 vF 78 8 1,
 ⟨none, none, .inl (.st 1 (.s 78) (.s 77))⟩])))))
 (.region [vP 79 (vc .add 40 1),
 vM 40 79])))
def k39 : Cd :=
  .seq (.region [vP 4 (.alloc 65 [(.slice none 0 0), (.slice none 0 0)])])
 (.seq (.region [vM 13 0,
 vP 14 (.len (.s 13)),
 vP 15 (.mks 70 5 40 [(.int .i64 0), (.int .i64 0), (.int .i64 0), (.int .i64 0), (.int .i64 0)] (vi 0) (.s 14)),
 vM 5 15])
 (.seq (.seq (.region [vM 16 0,
 vP 17 (.len (.s 16)),
 vP 18 (.mv (vi 0))])
 (.block 0 (.loop k39l0)))
 (.seq (.draw [vD (vM 31 5) 0,
 ⟨vN 32 99 [(.s 31)], (some [.at 5]), [.fr 36, .fr 8], 1, false⟩,
 vD (vM 33 5) 0,
 vD (vP 34 (.len (.s 33))) 4,
 vD (vP 35 (.bin .mul (vi 2) (.s 34))) 12,
 ⟨vP 36 (.mks 148 5 40 [(.int .i64 0), (.bool false), (.int .i64 0), (.int .i64 0), (.int .i64 0)] (vi 0) (.s 35)), (some [.fr 36]), [.at 5, .fr 8], 28, false⟩,
 vD (vP 37 (.bld [(.slice none 0 0), (.slice none 0 0)] [(0, 1, (.s 32)), (1, 1, (.s 36))])) 63,
 ⟨vP 8 (.alloc 65 [(.slice none 0 0), (.slice none 0 0)]), (some [.fr 8]), [.at 5, .fr 36], 0, false⟩,
 ⟨⟨none, none, .inl (.st 2 (.s 8) (.s 37))⟩, (some [.fr 8]), [], 255, false⟩])
 (.seq (.seq (.region [vM 38 0,
 vP 39 (.len (.s 38)),
 vP 40 (.mv (vi 0))])
 (.block 2 (.loop k39l1)))
 (.seq (.region [vP 80 (.ld true 2 (.s 8)),
 ⟨none, none, .inl (.st 2 (.s 4) (.s 80))⟩])
 (.ret))))))
def k40 : Cd :=
  .seq (.region [vP 2 (.mv (.c (.bool false)))])
 (.seq (.region [vP 2 (.mv (.c (.bool true)))])
 (.ret))
def k41l0 : Cd :=
  .seq (.region [vP 19 (vb .lss 18 17)])
 (.seq (.cond (.s 19) (.skip)
 (.exit 0))
 (.seq (.block 1 (.draw [vD (vF 20 1 1) 0,
 vD (vL 21 1 20) 1,
 vD (vM 22 3) 0,
 vD (vM 23 4) 0,
 vD (vI 24 1 22 23) 12,
 vD (vL 25 1 24) 28,
 vD (vI 26 5 21 25) 63,
 vD (vF 27 26 2) 127,
 vD (vL 28 1 27) 255,
 vD (vM 4 28) 511]))
 (.region [vP 29 (vc .add 18 1),
 vM 18 29])))
def k41l1 : Cd :=
  .seq (.seq (.region [vM 31 5,
 vP 32 (.len (.s 31)),
 vP 33 (vc .eql 32 0),
 vM 34 33,
 vU 34 35 (.mv (.s 4)),
 vU 34 36 (.mv (.s 6)),
 vU 34 37 (vb .neq 35 36),
 vP 38 (.pick (.s 34) (.c (.bool true)) (.s 37))])
 (.cond (.s 38) (.skip)
 (.exit 2)))
 (.block 3 (.seq (.draw [vD (vF 39 1 1) 0,
 ⟨vL 40 1 39, some [], [.fr 7], 1, false⟩,
 vD (vM 41 3) 0,
 vD (vM 42 4) 0,
 vD (vI 43 1 41 42) 12,
 ⟨vL 44 1 43, some [], [.fr 7], 28, false⟩,
 vD (vI 45 5 40 44) 63,
 ⟨vP 46 (.ld true 5 (.s 45)), some [], [.fr 7], 127, false⟩,
 ⟨vP 7 (.alloc 148 [(.int .i64 0), (.bool false), (.int .i64 0), (.int .i64 0), (.int .i64 0)]), (some [.fr 7]), [], 0, false⟩,
 ⟨⟨none, none, .inl (.st 5 (.s 7) (.s 46))⟩, (some [.fr 7]), [], 511, false⟩])
 (.seq (.region [vM 47 5,
 vF 48 7 0,
 vP 49 (.ld true 2 (.s 48)),
 vP 50 (.bs 81 2 1 [(.int .i64 0), (.bool false)] [(0, (.s 49))]),
 vP 51 (.app 81 2 16 (.s 47) (.s 50)),
 vM 5 51])
 (.region [vF 52 7 2,
 vL 53 1 52,
 vM 4 53]))))
def k41 : Cd :=
  .seq (.region [vP 1 (.box 65 2 (.s 0)),
 vP 2 (.mv (.c (.slice none 0 0)))])
 (.seq (.region [vP 9 (.ld true 2 (.s 1)),
 vN 10 101 [(.s 9)],
 vM 8 10,
 vP 11 (.ex (.s 8) 0),
 vP 12 (.ex (.s 8) 1),
 vM 3 11,
 vM 4 12])
 (.seq (.seq (.region [vM 13 4,
 vP 14 (.bin .eql (.s 13) (.c (.int .i64 (-1))))])
 (.cond (.s 14) (.seq (.region [vP 2 (.mv (.c (.slice none 0 0)))])
 (.ret))
 (.skip)))
 (.seq (.seq (.region [vF 15 1 0,
 vL 16 1 15,
 vP 17 (.len (.s 16)),
 vP 18 (.mv (vi 0))])
 (.block 0 (.loop k41l0)))
 (.seq (.region [vP 5 (.mv (.c (.slice none 0 0)))])
 (.seq (.seq (.region [vM 30 4,
 vM 6 30])
 (.block 2 (.loop k41l1)))
 (.seq (.region [vM 54 5,
 vN 55 102 [(.s 54)]])
 (.seq (.region [vM 56 5,
 vM 2 56])
 (.ret))))))))
def k45 : Cd :=
  .seq (.region [vP 6 (.mv (vi 0)),
 vP 7 (.mv (vi 0)),
 vP 8 (.mv (vi 0))])
 (.seq (.region [vM 11 0,
 vM 12 1,
 vM 13 2,
 vN 14 60 [(.s 11), (.s 12), (.s 13)],
 vM 10 14,
 vP 15 (.ex (.s 10) 0),
 vP 16 (.ex (.s 10) 1),
 vP 9 (.alloc 106 [(.slice none 0 0), (.slice none 0 0), (.int .i64 0), (.int .i64 0)]),
 ⟨none, none, .inl (.st 4 (.s 9) (.s 15))⟩,
 vM 8 16])
 (.seq (.seq (.region [vM 17 8,
 vP 18 (vc .neq 17 0)])
 (.cond (.s 18) (.seq (.region [vM 19 8,
 vP 6 (.mv (vi 0)),
 vP 7 (.mv (vi 0)),
 vM 8 19])
 (.ret))
 (.skip)))
 (.seq (.draw [vD (vF 20 9 0) 0,
 vD (vF 21 20 0) 1,
 vD (vF 22 21 1) 3,
 vD (vL 23 1 22) 7,
 vD (vF 24 9 3) 0,
 vD (vL 25 1 24) 16,
 vD (vI 26 1 23 25) 63,
 vD (vL 27 1 26) 127,
 vD (vF 28 9 2) 0,
 vD (vL 29 1 28) 256,
 vD (vI 30 1 27 29) 1023,
 vD (vL 31 1 30) 2047,
 vD (vP 32 (.neg (.s 31))) 4095,
 vD (vF 33 9 0) 0,
 vD (vF 34 33 0) 8192,
 vD (vF 35 34 1) 24576,
 vD (vL 36 1 35) 57344,
 vD (vF 37 9 2) 0,
 vD (vL 38 1 37) 131072,
 vD (vI 39 1 36 38) 516096,
 vD (vL 40 1 39) 1040384,
 vD (vF 41 9 3) 0,
 vD (vL 42 1 41) 2097152,
 vD (vI 43 1 40 42) 8380416,
 vD (vL 44 1 43) 16769024,
 vD (vM 6 32) 8191,
 vD (vM 7 44) 67108863,
 vD (vP 8 (.mv (vi 0))) 134217727])
 (.ret))))
def k52l0 : Cd :=
  .seq (.region [vP 17 (vb .lss 16 15)])
 (.seq (.cond (.s 17) (.skip)
 (.exit 0))
 (.seq (.block 1 (.seq (.region [vI 18 5 14 16,
 vP 19 (.ld true 5 (.s 18)),
 vP 5 (.alloc 148 [(.int .i64 0), (.bool false), (.int .i64 0), (.int .i64 0), (.int .i64 0)]),
 ⟨none, none, .inl (.st 5 (.s 5) (.s 19))⟩])
 (.region [vP 20 (.ld true 2 (.s 2)),
 vF 21 5 2,
 vL 22 1 21,
 vF 23 5 3,
 vL 24 1 23,
 vF 25 5 4,
 vL 26 1 25,
 vN 27 111 [(.s 20), (.s 22), (.s 24), (.s 26)]])))
 (.region [vP 28 (vc .add 16 1),
 vM 16 28])))
def k52l1 : Cd :=
  .seq (.region [vP 34 (vb .lss 33 32)])
 (.seq (.cond (.s 34) (.skip)
 (.exit 2))
 (.seq (.block 3 (.seq (.region [vM 35 33,
 vM 6 35])
 (.region [vP 36 (.ld true 2 (.s 2)),
 vM 37 6,
 vN 38 112 [(.s 36), (.s 37)]])))
 (.region [vP 39 (vc .add 33 1),
 vM 33 39])))
def k52 : Cd :=
  .seq (.region [vP 1 (.box 65 2 (.s 0)),
 vP 2 (.alloc 90 [(.slice none 0 0), (.slice none 0 0)]),
 vP 3 (.mv (.c (.bool false)))])
 (.seq (.seq (.region [vP 7 (.ld true 2 (.s 1)),
 vN 8 109 [(.s 7)]])
 (.cond (.s 8) (.seq (.region [vP 9 (.bld [(.slice none 0 0), (.slice none 0 0)] []),
 ⟨none, none, .inl (.st 2 (.s 2) (.s 9))⟩,
 vP 3 (.mv (.c (.bool false)))])
 (.ret))
 (.skip)))
 (.seq (.region [vF 10 1 0,
 vL 11 1 10,
 vN 12 110 [(.s 11)],
 ⟨none, none, .inl (.st 2 (.s 2) (.s 12))⟩])
 (.seq (.seq (.region [vF 13 1 1,
 vL 14 1 13,
 vP 15 (.len (.s 14)),
 vP 16 (.mv (vi 0))])
 (.block 0 (.loop k52l0)))
 (.seq (.seq (.region [vF 29 2 0,
 vF 30 29 0,
 vL 31 1 30,
 vP 32 (.len (.s 31)),
 vP 33 (.mv (vi 0))])
 (.block 2 (.loop k52l1)))
 (.seq (.region [vP 40 (.ld true 2 (.s 2)),
 ⟨none, none, .inl (.st 2 (.s 2) (.s 40))⟩,
 vP 3 (.mv (.c (.bool true)))])
 (.ret))))))
def k60 : Cd :=
  .seq (.region [vP 6 (.alloc 106 [(.slice none 0 0), (.slice none 0 0), (.int .i64 0), (.int .i64 0)]),
 vP 7 (.mv (vi 0))])
 (.seq (.seq (.region [vM 14 0,
 vN 15 38 [(.s 14)],
 vM 8 15])
 (.seq (.region [vM 16 8,
 vP 17 (vc .neq 16 0)])
 (.cond (.s 17) (.seq (.region [vP 18 (.bld [(.slice none 0 0), (.slice none 0 0), (.int .i64 0), (.int .i64 0)] []),
 vM 19 8,
 ⟨none, none, .inl (.st 4 (.s 6) (.s 18))⟩,
 vM 7 19])
 (.ret))
 (.skip))))
 (.seq (.region [vM 20 0,
 vN 21 39 [(.s 20), (.f 40)],
 vP 9 (.alloc 65 [(.slice none 0 0), (.slice none 0 0)]),
 ⟨none, none, .inl (.st 2 (.s 9) (.s 21))⟩])
 (.seq (.draw [vD (vF 22 9 0) 0,
 vD (vL 23 1 22) 1,
 vD (vM 24 1) 0,
 vD (vN 25 100 [(.s 23), (.s 24)]) 7,
 vD (vF 26 9 0) 0,
 vD (vL 27 1 26) 16,
 vD (vM 28 2) 0,
 vD (vN 29 100 [(.s 27), (.s 28)]) 127,
 vD (vM 10 25) 255,
 vD (vM 11 29) 511])
 (.seq (.seq (.region [vM 30 10,
 vP 31 (.bin .eql (.s 30) (.c (.int .i64 (-1)))),
 vM 32 31,
 vU 32 33 (.mv (.s 11)),
 vU 32 34 (.bin .eql (.s 33) (.c (.int .i64 (-1)))),
 vP 35 (.pick (.s 32) (.c (.bool true)) (.s 34))])
 (.cond (.s 35) (.seq (.region [vP 36 (.bld [(.slice none 0 0), (.slice none 0 0), (.int .i64 0), (.int .i64 0)] []),
 ⟨none, none, .inl (.st 4 (.s 6) (.s 36))⟩,
 vP 7 (.mv (vi 3))])
 (.ret))
 (.skip)))
 (.seq (.region [vP 38 (.ld true 2 (.s 9)),
 vN 39 52 [(.s 38)],
 vM 37 39,
 vP 40 (.ex (.s 37) 0),
 vP 41 (.ex (.s 37) 1),
 vP 12 (.alloc 90 [(.slice none 0 0), (.slice none 0 0)]),
 ⟨none, none, .inl (.st 2 (.s 12) (.s 40))⟩,
 vM 13 41])
 (.seq (.seq (.region [vM 42 13,
 vP 43 (.not (.s 42))])
 (.cond (.s 43) (.seq (.region [vP 44 (.bld [(.slice none 0 0), (.slice none 0 0), (.int .i64 0), (.int .i64 0)] []),
 ⟨none, none, .inl (.st 4 (.s 6) (.s 44))⟩,
 vP 7 (.mv (vi 25))])
 (.ret))
 (.skip)))
 (.seq (.region [vP 45 (.ld true 2 (.s 12)),
 vM 46 10,
 vM 47 11,
 vP 48 (.bld [(.slice none 0 0), (.slice none 0 0), (.int .i64 0), (.int .i64 0)] [(0, 2, (.s 45)), (2, 1, (.s 46)), (3, 1, (.s 47))]),
 ⟨none, none, .inl (.st 4 (.s 6) (.s 48))⟩,
 vP 7 (.mv (vi 0))])
 (.ret))))))))
def k62 : Cd :=
  .seq (.region [vP 6 (.mv (.c (.bool false)))])
 (.seq (.region [vM 7 1,
 vM 8 0,
 vP 9 (vb .leq 7 8),
 vM 10 9,
 vT 10 11 (.mv (.s 0)),
 vT 10 12 (.mv (.s 2)),
 vT 10 13 (vb .leq 11 12),
 vP 14 (.pick (.s 10) (.s 13) (.c (.bool false))),
 vM 6 14])
 (.ret))
def k68 : Cd :=
  .seq (.region [vP 4 (.mv (.c (.bool false)))])
 (.seq (.region [vM 5 0,
 vM 6 1,
 vN 7 123 [(.s 5), (.s 6)],
 vP 8 (vc .geq 7 0),
 vM 4 8])
 (.ret))
def k71 : Cd :=
  .seq (.region [vP 4 (.mv (.c (.bool false)))])
 (.seq (.region [vM 5 0,
 vM 6 1,
 vN 7 117 [(.s 5), (.s 6)],
 vP 8 (vc .geq 7 0),
 vM 4 8])
 (.ret))
def k79 : Cd :=
  .seq (.region [vP 2 (.mv (.c (.slice none 0 0)))])
 (.seq (.seq (.region [vM 3 0,
 vP 4 (.eq false (.nil .slice) (.s 3) (.c (.slice none 0 0)))])
 (.cond (.s 4) (.seq (.region [vP 2 (.mv (.c (.slice none 0 0)))])
 (.ret))
 (.skip)))
 (.seq (.region [vP 5 (.bs 70 5 0 [(.int .i64 0), (.int .i64 0), (.int .i64 0), (.int .i64 0), (.int .i64 0)] []),
 vM 6 0,
 vP 7 (.app 70 5 40 (.s 5) (.s 6)),
 vM 2 7])
 (.ret)))
def k81 : Cd :=
  .seq (.region [vP 6 (.mv (.c (.bool false)))])
 (.seq (.region [vM 7 1,
 vM 8 0,
 vP 9 (vb .leq 7 8),
 vM 10 9,
 vT 10 11 (.mv (.s 0)),
 vT 10 12 (.mv (.s 2)),
 vT 10 13 (vb .leq 11 12),
 vP 14 (.pick (.s 10) (.s 13) (.c (.bool false))),
 vM 6 14])
 (.ret))
def k82l0 : Cd :=
  .seq (.seq (.region [vM 5 1,
 vP 6 (vc .neq 5 0)])
 (.cond (.s 6) (.skip)
 (.exit 0)))
 (.block 1 (.draw [vD (vM 7 1) 0,
 vD (vM 8 0) 0,
 vD (vM 9 1) 0,
 vD (vP 10 (vb .rem 8 9)) 6,
 vD (vM 0 7) 3,
 vD (vM 1 10) 31]))
def k82 : Cd :=
  .seq (.region [vP 4 (.mv (vi 0))])
 (.seq (.block 0 (.loop k82l0))
 (.seq (.region [vM 11 0,
 vM 12 0,
 vP 13 (.neg (.s 12)),
 vP 14 (.mm true (.s 11) (.s 13)),
 vM 4 14])
 (.ret)))
def k83 : Cd :=
  .seq (.region [vP 6 (.mv (.c (.bool false)))])
 (.seq (.region [vM 7 1,
 vM 8 0,
 vP 9 (vb .leq 7 8),
 vM 10 9,
 vT 10 11 (.mv (.s 0)),
 vT 10 12 (.mv (.s 2)),
 vT 10 13 (vb .leq 11 12),
 vP 14 (.pick (.s 10) (.s 13) (.c (.bool false))),
 vM 6 14])
 (.ret))
def k84l0 : Cd :=
  .seq (.seq (.region [vM 6 1,
 vP 7 (vc .gtr 6 0)])
 (.cond (.s 7) (.skip)
 (.exit 0)))
 (.block 1 (.seq (.region [vM 8 0,
 vM 9 1,
 vP 10 (vb .rem 8 9),
 vM 5 10])
 (.seq (.region [vM 11 1,
 vM 0 11])
 (.region [vM 12 5,
 vM 1 12]))))
def k84 : Cd :=
  .seq (.region [vP 4 (.mv (vi 0))])
 (.seq (.block 0 (.loop k84l0))
 (.seq (.region [vM 13 0,
 vM 4 13])
 (.ret)))
def k85 : Cd :=
  .seq (.region [vP 1 (.box 48 2 (.s 0)),
 vP 2 (.mv (.c (.bool false)))])
 (.seq (.region [vF 3 1 0,
 vL 4 1 3,
 vN 5 81 [(.s 4), (.c (.int .i64 (-1000000000))), (vi 1000000000)],
 vM 6 5,
 vT 6 7 (.fa (.s 1) 1),
 vT 6 8 (.ld false 1 (.s 7)),
 ⟨some (6, true), some 9, .inr (.fn 81 [(.s 8), (vi 1), (vi 1000000000)])⟩,
 vP 10 (.pick (.s 6) (.s 9) (.c (.bool false))),
 vM 2 10])
 (.ret))
def k86 : Cd :=
  .seq (.region [vP 4 (.mv (vi 0))])
 (.seq (.region [vM 7 0,
 vN 8 126 [(.s 7)],
 vM 5 8])
 (.seq (.region [vM 9 1,
 vN 10 126 [(.s 9)],
 vM 6 10])
 (.seq (.seq (.region [vM 11 5])
 (.cond (.s 11) (.seq (.seq (.region [vM 12 6])
 (.cond (.s 12) (.seq (.region [vP 4 (.mv (vi 0))])
 (.ret))
 (.skip)))
 (.seq (.region [vP 4 (.mv (.c (.int .i64 (-1))))])
 (.ret)))
 (.skip)))
 (.seq (.seq (.region [vM 13 6])
 (.cond (.s 13) (.seq (.region [vP 4 (.mv (vi 1))])
 (.ret))
 (.skip)))
 (.seq (.seq (.region [vM 14 0,
 vM 15 1,
 vP 16 (vb .lss 14 15)])
 (.cond (.s 16) (.seq (.region [vP 4 (.mv (.c (.int .i64 (-1))))])
 (.ret))
 (.skip)))
 (.seq (.seq (.region [vM 17 0,
 vM 18 1,
 vP 19 (vb .gtr 17 18)])
 (.cond (.s 19) (.seq (.region [vP 4 (.mv (vi 1))])
 (.ret))
 (.skip)))
 (.seq (.region [vP 4 (.mv (vi 0))])
 (.ret))))))))
def k87 : Cd :=
  .seq (.region [vP 1 (.box 48 2 (.s 0)),
 vP 2 (.mv (.c (.bool false)))])
 (.seq (.region [vF 3 1 0,
 vL 4 1 3,
 vN 5 83 [(.s 4), (.c (.int .i64 (-1000000000))), (vi 1000000000)],
 vM 6 5,
 vT 6 7 (.fa (.s 1) 1),
 vT 6 8 (.ld false 1 (.s 7)),
 ⟨some (6, true), some 9, .inr (.fn 83 [(.s 8), (vi 1), (vi 1000000000)])⟩,
 vP 10 (.pick (.s 6) (.s 9) (.c (.bool false))),
 vM 2 10])
 (.ret))
def k88 : Cd :=
  .seq (.region [vP 3 (.box 128 2 (.s 0)),
 vP 4 (.box 130 5 (.s 1)),
 vP 6 (.mv (.c (.slice none 0 0))),
 vP 7 (.mv (vi 0))])
 (.seq (.region [vP 11 (.ld true 2 (.s 3)),
 vP 12 (.ld true 5 (.s 4)),
 vM 13 2,
 vN 14 127 [(.s 11), (.s 12), (.s 13)],
 vM 10 14,
 vP 15 (.ex (.s 10) 0),
 vP 16 (.ex (.s 10) 1),
 vM 8 15,
 vM 9 16])
 (.seq (.region [vM 17 8,
 vF 18 4 3,
 vL 19 1 18,
 vF 20 4 4,
 vL 21 1 20,
 vN 22 91 [(.s 17), (.s 19), (.s 21)],
 vM 23 9,
 vM 6 22,
 vM 7 23])
 (.ret)))
def k89 : Cd :=
  .seq (.region [vP 3 (.box 128 2 (.s 0)),
 vP 4 (.box 130 5 (.s 1)),
 vP 5 (.box 130 5 (.s 2)),
 vP 6 (.alloc 135 [(.bool false), (.bool false), (.bool false)]),
 vP 7 (.mv (vi 0))])
 (.seq (.region [vP 11 (.ld true 2 (.s 3)),
 vP 12 (.ld true 5 (.s 4)),
 vP 13 (.ld true 5 (.s 5)),
 vN 14 128 [(.s 11), (.s 12), (.s 13)],
 vM 10 14,
 vP 15 (.ex (.s 10) 0),
 vP 16 (.ex (.s 10) 1),
 vM 8 15,
 vM 9 16])
 (.seq (.seq (.region [vM 17 9,
 vP 18 (vc .neq 17 0)])
 (.cond (.s 18) (.seq (.region [vP 19 (.bld [(.bool false), (.bool false), (.bool false)] []),
 vM 20 9,
 ⟨none, none, .inl (.st 3 (.s 6) (.s 19))⟩,
 vM 7 20])
 (.ret))
 (.skip)))
 (.seq (.draw [vD (vM 21 8) 0,
 vD (vP 22 (.ias 2 (.s 21) (vi 0))) 1,
 vD (vF 23 22 0) 3,
 vD (vL 24 1 23) 7,
 vD (vP 25 (vc .lss 24 0)) 15,
 vD (vM 26 8) 0,
 vD (vN 27 129 [(.s 26), (vi 0)]) 32,
 vD (vM 28 8) 0,
 vD (vM 29 8) 0,
 vD (vP 30 (.len (.s 29))) 256,
 vD (vP 31 (vc .sub 30 1)) 768,
 vD (vI 32 2 28 31) 1920,
 vD (vF 33 32 1) 3968,
 vD (vL 34 1 33) 8064,
 vD (vP 35 (vc .gtr 34 0)) 16256,
 vD (vP 36 (.bld [(.bool false), (.bool false), (.bool false)] [(0, 1, (.s 25)), (1, 1, (.s 27)), (2, 1, (.s 35))])) 32767,
 ⟨⟨none, none, .inl (.st 3 (.s 6) (.s 36))⟩, (some [.at 6]), [], 65535, false⟩,
 vD (vP 7 (.mv (vi 0))) 131071])
 (.ret))))
def k90l0 : Cd :=
  .region [vM 16 52]
def k90l1 : Cd :=
  .block 3 (.seq (.region [vM 53 16,
 vN 54 135 [(.s 53)],
 vM 17 54])
 (.seq (.draw [vD (vL 55 1 8) 0,
 vD (vM 56 17) 0,
 vD (vP 57 (.mm false (.s 55) (.s 56))) 3,
 ⟨vL 58 1 9, some [], [.at 8], 0, false⟩,
 vD (vM 59 17) 0,
 vD (vP 60 (.mm true (.s 58) (.s 59))) 24,
 ⟨⟨none, none, .inl (.st 1 (.s 8) (.s 57))⟩, (some [.at 8]), [], 7, false⟩,
 ⟨⟨none, none, .inl (.st 1 (.s 9) (.s 60))⟩, (some [.at 9]), [], 127, false⟩])
 (.seq (.region [vL 61 1 8,
 vP 62 (vc .eql 61 0),
 vM 63 62,
 vT 63 64 (.ld false 1 (.s 9)),
 vT 63 65 (.ld false 1 (.s 5)),
 vT 63 66 (.len (.s 65)),
 vT 63 67 (vb .eql 64 66),
 vP 68 (.pick (.s 63) (.s 67) (.c (.bool false)))])
 (.cond (.s 68) (.exit 0)
 (.skip)))))
def k90l2 : Cd :=
  .seq (.region [vP 44 (vb .lss 43 42)])
 (.seq (.cond (.s 44) (.skip)
 (.exit 0))
 (.seq (.block 1 (.seq (.region [vI 45 1 41 43,
 vL 46 1 45,
 vM 15 46])
 (.seq (.region [vP 47 (.ld true 5 (.s 12)),
 vM 48 15,
 vN 49 133 [(.s 47), (.s 48)],
 vM 50 13,
 vN 51 134 [(.s 49), (.s 50)]])
 (.block 2 (.rangeF (.s 51) [52] k90l0 k90l1)))))
 (.region [vP 69 (vc .add 43 1),
 vM 43 69])))
def k90 : Cd :=
  .seq (.region [vP 4 (.box 128 2 (.s 0)),
 vP 5 (.box 139 1 (.s 1)),
 vP 7 (.box 141 2 (.s 3)),
 vP 8 (.alloc 3 [(.int .i64 0)]),
 vP 9 (.alloc 3 [(.int .i64 0)]),
 vP 10 (.mv (vi 0))])
  (.scope (.seq (.seq (.region [vL 18 1 5,
 vP 19 (.ld true 2 (.s 7)),
 vN 20 130 [(.s 18), (.s 19)],
 vM 11 20])
 (.seq (.region [vM 21 11,
 vP 22 (vc .neq 21 0)])
 (.cond (.s 22) (.seq (.region [vM 23 11,
 ⟨none, none, .inl (.st 1 (.s 8) (vi 0))⟩,
 ⟨none, none, .inl (.st 1 (.s 9) (vi 0))⟩,
 vM 10 23])
 (.ret))
 (.skip))))
 (.seq (.region [vP 25 (.ld true 2 (.s 4)),
 vL 26 1 5,
 vM 27 2,
 vN 28 131 [(.s 25), (.s 26), (.s 27)],
 vM 24 28,
 vP 29 (.ex (.s 24) 0),
 vP 30 (.ex (.s 24) 1),
 vP 12 (.alloc 175 [(.slice none 0 0), (.slice none 0 0), (.slice none 0 0), (.int .i64 0), (.slice none 0 0)]),
 ⟨none, none, .inl (.st 5 (.s 12) (.s 29))⟩,
 vM 10 30])
 (.seq (.seq (.region [vM 31 10,
 vP 32 (vc .neq 31 0)])
 (.cond (.s 32) (.seq (.region [vM 33 10,
 ⟨none, none, .inl (.st 1 (.s 8) (vi 0))⟩,
 ⟨none, none, .inl (.st 1 (.s 9) (vi 0))⟩,
 vM 10 33])
 (.ret))
 (.skip)))
 (.seq (.region [vP 34 (.ld true 5 (.s 12)),
 vL 35 1 5,
 vP 36 (.ld true 2 (.s 7)),
 vN 37 132 [(.s 34), (.s 35), (.s 36)],
 vM 13 37])
 (.seq (.region [vL 38 1 5,
 vP 39 (.len (.s 38)),
 ⟨none, none, .inl (.st 1 (.s 8) (.s 39))⟩])
 (.seq (.skip)
 (.seq (.seq (.region [vF 40 12 4,
 vL 41 1 40,
 vP 42 (.len (.s 41)),
 vP 43 (.mv (vi 0))])
 (.block 0 (.loop k90l2)))
 (.seq (.draw [vD (vL 70 1 8) 0,
 ⟨vL 71 1 9, some [], [.at 8], 0, false⟩,
 ⟨⟨none, none, .inl (.st 1 (.s 8) (.s 70))⟩, (some [.at 8]), [], 1, false⟩,
 ⟨⟨none, none, .inl (.st 1 (.s 9) (.s 71))⟩, (some [.at 9]), [], 7, false⟩,
 vD (vP 10 (.mv (vi 0))) 15])
 (.ret))))))))))
def k91l0 : Cd :=
  .seq (.region [vP 26 (vb .lss 25 24)])
 (.seq (.cond (.s 26) (.skip)
 (.exit 0))
 (.seq (.block 1 (.seq (.region [vM 27 25,
 vI 28 2 23 25,
 vP 29 (.ld true 2 (.s 28)),
 vP 9 (.alloc 141 [(.int .i64 0), (.int .i64 0)]),
 vM 8 27,
 ⟨none, none, .inl (.st 2 (.s 9) (.s 29))⟩])
 (.seq (.seq (.region [vF 30 9 0,
 vL 31 1 30,
 vP 32 (.bin .neq (.s 31) (.c (.int .i64 (-1000000000))))])
 (.cond (.s 32) (.region [vM 33 7,
 vM 34 8,
 vI 35 2 33 34,
 vF 36 35 0,
 vL 37 1 36,
 vM 38 1,
 vP 39 (vb .add 37 38),
 vI 40 2 33 34,
 vF 41 40 0,
 ⟨none, none, .inl (.st 1 (.s 41) (.s 39))⟩])
 (.skip)))
 (.seq (.region [vF 42 9 1,
 vL 43 1 42,
 vP 44 (vc .neq 43 1000000000)])
 (.cond (.s 44) (.region [vM 45 7,
 vM 46 8,
 vI 47 2 45 46,
 vF 48 47 1,
 vL 49 1 48,
 vM 50 2,
 vP 51 (vb .add 49 50),
 vI 52 2 45 46,
 vF 53 52 1,
 ⟨none, none, .inl (.st 1 (.s 53) (.s 51))⟩])
 (.skip))))))
 (.region [vP 54 (vc .add 25 1),
 vM 25 54])))
def k91 : Cd :=
  .seq (.region [vP 6 (.mv (.c (.slice none 0 0)))])
 (.seq (.seq (.region [vM 10 1,
 vP 11 (.bin .lss (.s 10) (.c (.int .i64 (-1000000000)))),
 vM 12 11,
 vU 12 13 (.mv (.s 1)),
 vU 12 14 (.mv (.s 2)),
 vU 12 15 (vb .gtr 13 14),
 vP 16 (.pick (.s 12) (.c (.bool true)) (.s 15)),
 vM 17 16,
 vU 17 18 (.mv (.s 2)),
 vU 17 19 (vc .gtr 18 1000000000),
 vP 20 (.pick (.s 17) (.c (.bool true)) (.s 19))])
 (.cond (.s 20) (.seq (.region [vP 6 (.mv (.c (.slice none 0 0)))])
 (.ret))
 (.skip)))
 (.seq (.region [vM 21 0,
 vN 22 136 [(.s 21)],
 vM 7 22])
 (.seq (.seq (.region [vM 23 7,
 vP 24 (.len (.s 23)),
 vP 25 (.mv (vi 0))])
 (.block 0 (.loop k91l0)))
 (.seq (.region [vM 55 7,
 vN 56 136 [(.s 55)],
 vM 6 56])
 (.ret)))))
def k92l0 : Cd :=
  .seq (.region [vP 14 (vb .lss 13 12)])
 (.seq (.cond (.s 14) (.skip)
 (.exit 0))
 (.seq (.block 1 (.seq (.region [vM 15 13,
 vM 5 15])
 (.seq (.draw [vD (vM 16 0) 0,
 vD (vM 17 5) 0,
 vD (vI 18 2 16 17) 3,
 vD (vP 19 (.ld true 2 (.s 18))) 7,
 vD (vM 20 1) 0,
 vD (vM 21 5) 0,
 vD (vI 22 2 20 21) 48,
 vD (vP 23 (.ld true 2 (.s 22))) 112,
 vD (vP 24 (.eq true (.cells [.int, .int]) (.s 19) (.s 23))) 255])
 (.cond (.s 24) (.seq (.region [vP 4 (.mv (.c (.bool false)))])
 (.ret))
 (.skip)))))
 (.region [vP 25 (vc .add 13 1),
 vM 13 25])))
def k92 : Cd :=
  .seq (.region [vP 4 (.mv (.c (.bool false)))])
 (.seq (.seq (.region [vM 6 0,
 vP 7 (.len (.s 6)),
 vM 8 1,
 vP 9 (.len (.s 8)),
 vP 10 (vb .neq 7 9)])
 (.cond (.s 10) (.seq (.region [vP 4 (.mv (.c (.bool false)))])
 (.ret))
 (.skip)))
 (.seq (.seq (.region [vM 11 0,
 vP 12 (.len (.s 11)),
 vP 13 (.mv (vi 0))])
 (.block 0 (.loop k92l0)))
 (.seq (.region [vP 4 (.mv (.c (.bool true)))])
 (.ret))))
def k93 : Cd :=
  .seq (.region [vP 2 (.mv (.c (.bool false)))])
 (.seq (.region [vM 3 0,
 vP 4 (.len (.s 3)),
 vN 5 81 [(.s 4), (vi 1), (vi 400)],
 vM 6 5,
 vT 6 7 (.mv (.s 0)),
 ⟨some (6, true), some 8, .inr (.fn 71 [(.s 7), (.f 137)])⟩,
 vT 6 9 (.not (.s 8)),
 vP 10 (.pick (.s 6) (.s 9) (.c (.bool false))),
 vM 2 10])
 (.ret))
def k94l0 : Cd :=
  .seq (.seq (.region [vM 4 3,
 vM 5 0,
 vP 6 (.len (.s 5)),
 vP 7 (vb .lss 4 6)])
 (.cond (.s 7) (.skip)
 (.exit 0)))
 (.seq (.block 1 (.seq (.region [vM 10 0,
 vM 11 3,
 vI 12 1 10 11,
 vL 13 1 12,
 vN 14 83 [(.s 13), (vi 0), (vi 200000)],
 vP 15 (.not (.s 14))])
 (.cond (.s 15) (.seq (.region [vP 2 (.mv (.c (.bool false)))])
 (.ret))
 (.skip))))
 (.region [vM 8 3,
 vP 9 (vc .add 8 1),
 vM 3 9]))
def k94 : Cd :=
  .seq (.region [vP 2 (.mv (.c (.bool false)))])
 (.seq (.seq (.region [vP 3 (.mv (vi 0))])
 (.block 0 (.loop k94l0)))
 (.seq (.region [vM 16 0,
 vP 17 (.len (.s 16)),
 vN 18 83 [(.s 17), (vi 1), (vi 400)],
 vM 2 18])
 (.ret)))
def k95l0 : Cd :=
  .seq (.seq (.region [vM 7 4,
 vM 8 0,
 vP 9 (.len (.s 8)),
 vP 10 (vb .lss 7 9)])
 (.cond (.s 10) (.skip)
 (.exit 0)))
 (.seq (.block 1 (.region [vM 13 3,
 vM 14 0,
 vM 15 4,
 vI 16 1 14 15,
 vL 17 1 16,
 vP 18 (vb .add 13 17),
 vM 3 18]))
 (.region [vM 11 4,
 vP 12 (vc .add 11 1),
 vM 4 12]))
def k95 : Cd :=
  .seq (.region [vP 2 (.alloc 48 [(.int .i64 0), (.int .i64 0)])])
 (.seq (.region [vP 3 (.mv (vi 0))])
 (.seq (.seq (.region [vP 4 (.mv (vi 0))])
 (.block 0 (.loop k95l0)))
 (.seq (.region [vM 20 3,
 vM 21 0,
 vP 22 (.len (.s 21)),
 vN 23 25 [(.s 20), (.s 22)],
 vM 19 23,
 vP 24 (.ex (.s 19) 0),
 vP 25 (.ex (.s 19) 1),
 vP 5 (.alloc 48 [(.int .i64 0), (.int .i64 0)]),
 ⟨none, none, .inl (.st 2 (.s 5) (.s 24))⟩,
 vM 6 25])
 (.seq (.region [vP 26 (.ld true 2 (.s 5)),
 ⟨none, none, .inl (.st 2 (.s 2) (.s 26))⟩])
 (.ret)))))
def k96l0 : Cd :=
  .seq (.seq (.region [vM 14 6,
 vM 15 0,
 vP 16 (.len (.s 15)),
 vP 17 (vb .lss 14 16)])
 (.cond (.s 17) (.skip)
 (.exit 0)))
 (.seq (.block 1 (.seq (.draw [vD (vM 20 1) 0,
 vD (vM 21 0) 0,
 vD (vM 22 6) 0,
 vD (vI 23 2 21 22) 6,
 vD (vP 24 (.ld true 2 (.s 23))) 14,
 vD (vP 25 (.ld true 2 (.s 5))) 0,
 ⟨⟨none, some 26, .inr (.val false (.s 20) [(.s 24), (.s 25)])⟩, some [], [], 63, false⟩,
 vD (vP 27 (vc .gtr 26 0)) 127])
 (.cond (.s 27) (.region [vM 28 0,
 vM 29 6,
 vI 30 2 28 29,
 vP 31 (.ld true 2 (.s 30)),
 ⟨none, none, .inl (.st 2 (.s 5) (.s 31))⟩])
 (.skip))))
 (.region [vM 18 6,
 vP 19 (vc .add 18 1),
 vM 6 19]))
def k96 : Cd :=
  .seq (.region [vP 4 (.alloc 48 [(.int .i64 0), (.int .i64 0)])])
 (.seq (.seq (.region [vM 7 0,
 vP 8 (.len (.s 7)),
 vP 9 (vc .lss 8 1)])
 (.cond (.s 9) (.region [⟨none, some 10, .inl (.mki 9 (.c (.string ⟨#[115, 108, 105, 99, 101, 115, 46, 77, 97, 120, 70, 117, 110, 99, 58, 32, 101, 109, 112, 116, 121, 32, 108, 105, 115, 116]⟩)))⟩,
 ⟨none, none, .inr (.pan (.s 10))⟩])
 (.skip)))
 (.seq (.region [vM 11 0,
 vP 12 (.ias 2 (.s 11) (vi 0)),
 vP 13 (.ld true 2 (.s 12)),
 vP 5 (.alloc 48 [(.int .i64 0), (.int .i64 0)]),
 ⟨none, none, .inl (.st 2 (.s 5) (.s 13))⟩])
 (.seq (.seq (.region [vP 6 (.mv (vi 1))])
 (.block 0 (.loop k96l0)))
 (.seq (.region [vP 32 (.ld true 2 (.s 5)),
 ⟨none, none, .inl (.st 2 (.s 4) (.s 32))⟩])
 (.ret)))))
def k97l0 : Cd :=
  .seq (.region [vP 9 (vb .lss 8 7)])
 (.seq (.cond (.s 9) (.skip)
 (.exit 0))
 (.seq (.block 1 (.seq (.region [vM 10 8,
 vM 5 10])
 (.seq (.draw [vD (vP 11 (.ld true 2 (.s 3))) 0,
 vD (vM 12 0) 0,
 vD (vM 13 5) 0,
 vD (vI 14 2 12 13) 6,
 vD (vP 15 (.ld true 2 (.s 14))) 14,
 vD (vP 16 (.eq false (.cells [.int, .int]) (.s 11) (.s 15))) 31])
 (.cond (.s 16) (.seq (.region [vM 17 5,
 vM 4 17])
 (.ret))
 (.skip)))))
 (.region [vP 18 (vc .add 8 1),
 vM 8 18])))
def k97 : Cd :=
  .seq (.region [vP 3 (.box 48 2 (.s 1)),
 vP 4 (.mv (vi 0))])
 (.seq (.seq (.region [vM 6 0,
 vP 7 (.len (.s 6)),
 vP 8 (.mv (vi 0))])
 (.block 0 (.loop k97l0)))
 (.seq (.region [vP 4 (.mv (.c (.int .i64 (-1))))])
 (.ret)))
def k98 : Cd :=
  .seq (.region [vP 1 (.box 70 5 (.s 0)),
 vP 2 (.mv (vi 0))])
 (.seq (.region [vF 5 1 0,
 vL 6 1 5,
 vN 7 62 [(.s 6), (vi 0), (vi 2048)],
 vM 8 7,
 vT 8 9 (.fa (.s 1) 1),
 vT 8 10 (.ld false 1 (.s 9)),
 ⟨some (8, true), some 11, .inr (.fn 62 [(.s 10), (vi 0), (vi 2048)])⟩,
 vP 12 (.pick (.s 8) (.s 11) (.c (.bool false))),
 vM 13 12,
 vT 13 14 (.fa (.s 1) 0),
 vT 13 15 (.ld false 1 (.s 14)),
 vT 13 16 (.fa (.s 1) 1),
 vT 13 17 (.ld false 1 (.s 16)),
 vT 13 18 (vb .neq 15 17),
 vP 19 (.pick (.s 13) (.s 18) (.c (.bool false))),
 vM 3 19])
 (.seq (.region [vF 20 1 2,
 vL 21 1 20,
 vF 22 1 3,
 vL 23 1 22,
 vN 24 62 [(.s 21), (.c (.int .i64 (-100000))), (.s 23)],
 vM 25 24,
 vT 25 26 (.fa (.s 1) 3),
 vT 25 27 (.ld false 1 (.s 26)),
 vT 25 28 (vc .leq 27 100000),
 vP 29 (.pick (.s 25) (.s 28) (.c (.bool false))),
 vM 4 29])
 (.seq (.seq (.region [vM 30 3,
 vP 31 (.not (.s 30)),
 vM 32 31,
 vU 32 33 (.mv (.s 4)),
 vU 32 34 (.not (.s 33)),
 vP 35 (.pick (.s 32) (.c (.bool true)) (.s 34)),
 vM 36 35,
 vU 36 37 (.fa (.s 1) 4),
 vU 36 38 (.ld false 1 (.s 37)),
 ⟨some (36, false), some 39, .inr (.fn 62 [(.s 38), (vi 1), (vi 99999)])⟩,
 vU 36 40 (.not (.s 39)),
 vP 41 (.pick (.s 36) (.c (.bool true)) (.s 40))])
 (.cond (.s 41) (.seq (.region [vP 2 (.mv (vi 20))])
 (.ret))
 (.skip)))
 (.seq (.region [vP 2 (.mv (vi 0))])
 (.ret)))))
def k99 : Cd :=
  .seq (.region [vP 2 (.mv (.c (.slice none 0 0)))])
 (.seq (.region [vP 3 (.alloc 192 [(.int .u64 0), (.int .u64 0), (.int .u64 0), (.int .u64 0), (.int .u64 0), (.int .u64 0), (.int .u64 0), (.int .u64 0), (.int .u64 0), (.int .u64 0), (.int .u64 0), (.int .u64 0), (.int .u64 0), (.int .u64 0), (.int .u64 0), (.int .u64 0), (.int .u64 0), (.int .u64 0), (.int .u64 0), (.int .u64 0), (.int .u64 0), (.int .u64 0), (.int .u64 0), (.int .u64 0), (.int .u64 0), (.int .u64 0), (.int .u64 0), (.int .u64 0), (.int .u64 0), (.int .u64 0), (.int .u64 0), (.int .u64 0), (.int .u64 0)])])
 (.seq (.region [vM 4 0,
 vN 5 138 [(.s 3), (.s 4)]])
 (.seq (.region [vN 6 139 [(.s 3)],
 vM 2 6])
 (.ret))))
def k100 : Cd :=
  .seq (.region [vP 4 (.mv (vi 0))])
 (.seq (.region [vM 8 0,
 vM 9 1,
 vN 10 140 [(.s 8), (.s 9)],
 vM 7 10,
 vP 11 (.ex (.s 7) 0),
 vP 12 (.ex (.s 7) 1),
 vM 5 11,
 vM 6 12])
 (.seq (.seq (.region [vM 13 6,
 vP 14 (.not (.s 13))])
 (.cond (.s 14) (.seq (.region [vP 4 (.mv (.c (.int .i64 (-1))))])
 (.ret))
 (.skip)))
 (.seq (.region [vM 15 5,
 vM 4 15])
 (.ret))))
def k101l0 : Cd :=
  .seq (.region [vP 26 (vb .lss 25 24)])
 (.seq (.cond (.s 26) (.skip)
 (.exit 2))
 (.seq (.block 3 (.seq (.region [vM 27 25,
 vI 28 5 23 25,
 vP 29 (.ld true 5 (.s 28)),
 vP 6 (.alloc 148 [(.int .i64 0), (.bool false), (.int .i64 0), (.int .i64 0), (.int .i64 0)]),
 vM 5 27,
 ⟨none, none, .inl (.st 5 (.s 6) (.s 29))⟩])
 (.seq (.draw [vD (vM 30 4) 0,
 vD (vF 31 6 2) 0,
 vD (vL 32 1 31) 2,
 vD (vI 33 1 30 32) 7,
 vD (vL 34 1 33) 15,
 vD (vF 35 6 4) 0,
 vD (vL 36 1 35) 32,
 vD (vP 37 (vb .add 34 36)) 127,
 vD (vM 7 37) 255])
 (.seq (.region [vM 38 7,
 vM 39 4,
 vF 40 6 3,
 vL 41 1 40,
 vI 42 1 39 41,
 vL 43 1 42,
 vP 44 (vb .lss 38 43)])
 (.cond (.s 44) (.draw [vD (vM 45 4) 0,
 vD (vF 46 6 3) 0,
 vD (vL 47 1 46) 2,
 vD (vM 48 2) 0,
 vD (vF 49 6 3) 0,
 ⟨vL 50 1 49, some [], [.at 4], 16, false⟩,
 vD (vM 51 7) 0,
 vD (vM 52 5) 0,
 vD (vF 53 6 3) 0,
 ⟨vL 54 1 53, some [], [.at 4, .at 2], 256, false⟩,
 vD (vI 55 1 45 47) 71,
 ⟨⟨none, none, .inl (.st 1 (.s 55) (.s 51))⟩, (some [.at 4]), [], 1095, false⟩,
 vD (vI 56 1 48 50) 3327,
 ⟨⟨none, none, .inl (.st 1 (.s 56) (.s 52))⟩, (some [.at 2]), [], 7423, false⟩,
 vD (vM 3 54) 16383])
 (.skip))))))
 (.region [vP 57 (vc .add 25 1),
 vM 25 57])))
def k101l1 : Cd :=
  .seq (.region [vP 21 (vb .lss 20 19)])
 (.seq (.cond (.s 21) (.skip)
 (.exit 0))
 (.seq (.block 1 (.seq (.region [vP 3 (.mv (.c (.int .i64 (-1))))])
 (.seq (.seq (.region [vF 22 1 1,
 vL 23 1 22,
 vP 24 (.len (.s 23)),
 vP 25 (.mv (vi 0))])
 (.block 2 (.loop k101l0)))
 (.seq (.region [vM 58 3,
 vP 59 (.bin .eql (.s 58) (.c (.int .i64 (-1))))])
 (.cond (.s 59) (.exit 0)
 (.skip))))))
 (.region [vP 60 (vc .add 20 1),
 vM 20 60])))
def k101 : Cd :=
  .seq (.region [vP 1 (.box 65 2 (.s 0)),
 vP 2 (.mv (.c (.slice none 0 0))),
 vP 3 (.mv (vi 0))])
 (.seq (.region [vF 8 1 0,
 vL 9 1 8,
 vP 10 (.len (.s 9)),
 vP 11 (.mks 3 1 8 [(.int .i64 0)] (.s 10) (.s 10)),
 vM 4 11])
 (.seq (.region [vP 12 (.bst 3 1 1 [(.int .i64 0)] [(0, (.c (.int .i64 (-1))))]),
 vF 13 1 0,
 vL 14 1 13,
 vP 15 (.len (.s 14)),
 vN 16 141 [(.s 12), (.s 15)],
 vM 2 16])
 (.seq (.region [vP 3 (.mv (.c (.int .i64 (-1))))])
 (.seq (.seq (.region [vF 17 1 0,
 vL 18 1 17,
 vP 19 (.len (.s 18)),
 vP 20 (.mv (vi 0))])
 (.block 0 (.loop k101l1)))
 (.seq (.region [vM 61 2,
 vM 62 3,
 vM 2 61,
 vM 3 62])
 (.ret))))))
def k102l0 : Cd :=
  .seq (.seq (.region [vM 7 2,
 vM 8 3,
 vP 9 (vb .lss 7 8)])
 (.cond (.s 9) (.skip)
 (.exit 0)))
 (.seq (.block 1 (.draw [vD (vM 14 0) 0,
 vD (vM 15 2) 0,
 vD (vM 16 0) 0,
 vD (vM 17 3) 0,
 vD (vM 18 0) 0,
 vD (vM 19 3) 0,
 vD (vI 20 2 18 19) 48,
 vD (vP 21 (.ld true 2 (.s 20))) 112,
 vD (vM 22 0) 0,
 vD (vM 23 2) 0,
 vD (vI 24 2 22 23) 768,
 vD (vP 25 (.ld true 2 (.s 24))) 1792,
 vD (vI 26 2 14 15) 4083,
 ⟨⟨none, none, .inl (.st 2 (.s 26) (.s 21))⟩, (some [.at 0]), [], 8179, false⟩,
 vD (vI 27 2 16 17) 16383,
 ⟨⟨none, none, .inl (.st 2 (.s 27) (.s 25))⟩, (some [.at 0]), [], 32767, false⟩]))
 (.region [vM 10 2,
 vP 11 (vc .add 10 1),
 vM 12 3,
 vP 13 (vc .sub 12 1),
 vM 2 11,
 vM 3 13]))
def k102 : Cd :=
  .seq (.region [vM 4 0,
 vP 5 (.len (.s 4)),
 vP 6 (vc .sub 5 1),
 vP 2 (.mv (vi 0)),
 vM 3 6])
 (.block 0 (.loop k102l0))
def k109 : Cd :=
  .seq (.region [vP 1 (.box 65 2 (.s 0)),
 vP 2 (.mv (.c (.bool false)))])
 (.seq (.region [vP 6 (.ld true 2 (.s 1)),
 vN 7 101 [(.s 6)],
 vM 5 7,
 vP 8 (.ex (.s 5) 0),
 vP 9 (.ex (.s 5) 1),
 vM 3 8,
 vM 4 9])
 (.seq (.region [vM 10 4,
 vP 11 (.bin .neq (.s 10) (.c (.int .i64 (-1)))),
 vM 2 11])
 (.ret)))
def k110l0 : Cd :=
  .seq (.region [vP 11 (vb .lss 10 9)])
 (.seq (.cond (.s 11) (.skip)
 (.exit 0))
 (.seq (.block 1 (.seq (.region [vM 12 10,
 vM 4 12])
 (.seq (.region [vM 13 3,
 vM 14 4,
 vP 15 (.bst 3 1 1 [(.int .i64 0)] [(0, (vi 1000000000))]),
 vM 16 0,
 vP 17 (.len (.s 16)),
 vN 18 141 [(.s 15), (.s 17)],
 vI 19 1 13 14,
 ⟨none, none, .inl (.st 1 (.s 19) (.s 18))⟩])
 (.region [vM 20 3,
 vM 21 4,
 vI 22 1 20 21,
 vL 23 1 22,
 vM 24 4,
 vI 25 1 23 24,
 ⟨none, none, .inl (.st 1 (.s 25) (vi 0))⟩]))))
 (.region [vP 26 (vc .add 10 1),
 vM 10 26])))
def k110 : Cd :=
  .seq (.region [vP 2 (.alloc 90 [(.slice none 0 0), (.slice none 0 0)])])
 (.seq (.region [vM 5 0,
 vP 6 (.len (.s 5)),
 vP 7 (.mks 40 1 24 [(.slice none 0 0)] (.s 6) (.s 6)),
 vM 3 7])
 (.seq (.seq (.region [vM 8 0,
 vP 9 (.len (.s 8)),
 vP 10 (.mv (vi 0))])
 (.block 0 (.loop k110l0)))
 (.seq (.region [vM 27 0,
 vM 28 3,
 vP 29 (.bld [(.slice none 0 0), (.slice none 0 0)] [(0, 1, (.s 27)), (1, 1, (.s 28))]),
 vP 30 (.bld [(.slice none 0 0), (.slice none 0 0)] [(0, 2, (.s 29))]),
 ⟨none, none, .inl (.st 2 (.s 2) (.s 30))⟩])
 (.ret))))
def k111 : Cd :=
  .seq (.region [vP 4 (.box 90 2 (.s 0))])
 (.draw [vD (vF 8 4 0) 0,
 vD (vF 9 8 1) 1,
 vD (vL 10 1 9) 3,
 vD (vM 11 1) 0,
 vD (vI 12 1 10 11) 15,
 vD (vL 13 1 12) 31,
 vD (vM 14 2) 0,
 vD (vF 15 4 0) 0,
 vD (vF 16 15 1) 128,
 vD (vL 17 1 16) 384,
 vD (vM 18 1) 0,
 vD (vI 19 1 17 18) 1920,
 vD (vL 20 1 19) 3968,
 vD (vM 21 2) 0,
 vD (vI 22 1 20 21) 16256,
 vD (vL 23 1 22) 32640,
 vD (vM 24 3) 0,
 vD (vP 25 (.mm false (.s 23) (.s 24))) 130944,
 vD (vI 26 1 13 14) 262143,
 ⟨⟨none, none, .inl (.st 1 (.s 26) (.s 25))⟩, (some [.at 13]), [], 524287, false⟩])
def k112l0 : Cd :=
  .seq (.region [vP 32 (vb .lss 31 30)])
 (.seq (.cond (.s 32) (.skip)
 (.exit 2))
 (.seq (.block 3 (.seq (.region [vM 33 31,
 vM 7 33])
 (.seq (.region [vM 34 4,
 vM 35 7,
 vI 36 1 34 35,
 vL 37 1 36,
 vP 38 (vc .neq 37 1000000000)])
 (.cond (.s 38) (.draw [vD (vM 39 6) 0,
 vD (vM 40 7) 0,
 vD (vM 41 6) 0,
 vD (vM 42 7) 0,
 vD (vI 43 1 41 42) 12,
 vD (vL 44 1 43) 28,
 vD (vM 45 6) 0,
 vD (vM 46 1) 0,
 vD (vI 47 1 45 46) 192,
 vD (vL 48 1 47) 448,
 vD (vM 49 4) 0,
 vD (vM 50 7) 0,
 vD (vI 51 1 49 50) 3072,
 vD (vL 52 1 51) 7168,
 vD (vP 53 (vb .add 48 52)) 16320,
 vD (vP 54 (.mm false (.s 44) (.s 53))) 32764,
 vD (vI 55 1 39 40) 65535,
 ⟨⟨none, none, .inl (.st 1 (.s 55) (.s 54))⟩, (some [.at 6]), [], 131071, false⟩])
 (.skip)))))
 (.region [vP 56 (vc .add 31 1),
 vM 31 56])))
def k112l1 : Cd :=
  .seq (.region [vP 19 (vb .lss 18 17)])
 (.seq (.cond (.s 19) (.skip)
 (.exit 0))
 (.seq (.block 1 (.seq (.region [vI 20 1 16 18,
 vL 21 1 20,
 vM 6 21])
 (.seq (.seq (.region [vM 22 6,
 vM 23 1,
 vI 24 1 22 23,
 vL 25 1 24,
 vP 26 (vc .eql 25 1000000000)])
 (.cond (.s 26) (.exit 1)
 (.skip)))
 (.seq (.region [vF 27 2 0,
 vF 28 27 0,
 vL 29 1 28,
 vP 30 (.len (.s 29)),
 vP 31 (.mv (vi 0))])
 (.block 2 (.loop k112l0))))))
 (.region [vP 57 (vc .add 18 1),
 vM 18 57])))
def k112 : Cd :=
  .seq (.region [vP 2 (.box 90 2 (.s 0))])
 (.seq (.region [vF 8 2 0,
 vF 9 8 1,
 vL 10 1 9,
 vM 11 1,
 vI 12 1 10 11,
 vL 13 1 12,
 vM 4 13])
 (.seq (.region [vF 14 2 0,
 vF 15 14 1,
 vL 16 1 15,
 vP 17 (.len (.s 16)),
 vP 18 (.mv (vi 0))])
 (.block 0 (.loop k112l1))))
def k117l0 : Cd :=
  .seq (.region [vP 9 (vb .lss 8 7)])
 (.seq (.cond (.s 9) (.skip)
 (.exit 0))
 (.seq (.block 1 (.seq (.region [vM 10 8,
 vM 5 10])
 (.seq (.region [vM 11 1,
 vM 12 0,
 vM 13 5,
 vI 14 1 12 13,
 vL 15 1 14,
 ⟨none, some 16, .inr (.val false (.s 11) [(.s 15)])⟩])
 (.cond (.s 16) (.seq (.region [vM 17 5,
 vM 4 17])
 (.ret))
 (.skip)))))
 (.region [vP 18 (vc .add 8 1),
 vM 8 18])))
def k117 : Cd :=
  .seq (.region [vP 4 (.mv (vi 0))])
 (.seq (.seq (.region [vM 6 0,
 vP 7 (.len (.s 6)),
 vP 8 (.mv (vi 0))])
 (.block 0 (.loop k117l0)))
 (.seq (.region [vP 4 (.mv (.c (.int .i64 (-1))))])
 (.ret)))
def k123l0 : Cd :=
  .seq (.region [vP 9 (vb .lss 8 7)])
 (.seq (.cond (.s 9) (.skip)
 (.exit 0))
 (.seq (.block 1 (.seq (.region [vM 10 8,
 vM 5 10])
 (.seq (.region [vM 11 1,
 vM 12 0,
 vM 13 5,
 vI 14 1 12 13,
 vL 15 1 14,
 vP 16 (vb .eql 11 15)])
 (.cond (.s 16) (.seq (.region [vM 17 5,
 vM 4 17])
 (.ret))
 (.skip)))))
 (.region [vP 18 (vc .add 8 1),
 vM 8 18])))
def k123 : Cd :=
  .seq (.region [vP 4 (.mv (vi 0))])
 (.seq (.seq (.region [vM 6 0,
 vP 7 (.len (.s 6)),
 vP 8 (.mv (vi 0))])
 (.block 0 (.loop k123l0)))
 (.seq (.region [vP 4 (.mv (.c (.int .i64 (-1))))])
 (.ret)))
def k126 : Cd :=
  .seq (.region [vP 2 (.mv (.c (.bool false)))])
 (.seq (.region [vM 3 0,
 vM 4 0,
 vP 5 (vb .neq 3 4),
 vM 2 5])
 (.ret))
def k127 : Cd :=
  .seq (.region [vP 3 (.box 128 2 (.s 0)),
 vP 4 (.box 130 5 (.s 1)),
 vP 6 (.mv (.c (.slice none 0 0))),
 vP 7 (.mv (vi 0))])
 (.seq (.seq (.region [vP 9 (.ld true 5 (.s 4)),
 vN 10 150 [(.s 9)],
 vM 8 10])
 (.seq (.region [vM 11 8,
 vP 12 (vc .neq 11 0)])
 (.cond (.s 12) (.seq (.region [vM 13 8,
 vP 6 (.mv (.c (.slice none 0 0))),
 vM 7 13])
 (.ret))
 (.skip))))
 (.seq (.region [vP 14 (.ld true 2 (.s 3)),
 vM 15 2,
 vF 16 4 2,
 vL 17 1 16,
 vN 18 151 [(.s 14), (.s 15), (.s 17)],
 vP 19 (.ex (.s 18) 0),
 vP 20 (.ex (.s 18) 1),
 vM 6 19,
 vM 7 20])
 (.ret)))
def k128 : Cd :=
  .seq (.region [vP 3 (.box 128 2 (.s 0)),
 vP 4 (.box 130 5 (.s 1)),
 vP 5 (.box 130 5 (.s 2)),
 vP 6 (.mv (.c (.slice none 0 0))),
 vP 7 (.mv (vi 0))])
 (.seq (.seq (.region [vP 11 (.ld true 5 (.s 4)),
 vN 12 150 [(.s 11)],
 vM 8 12])
 (.seq (.region [vM 13 8,
 vP 14 (vc .neq 13 0)])
 (.cond (.s 14) (.seq (.region [vM 15 8,
 vP 6 (.mv (.c (.slice none 0 0))),
 vM 7 15])
 (.ret))
 (.skip))))
 (.seq (.region [vP 17 (.ld true 2 (.s 3)),
 vP 18 (.ld true 5 (.s 5)),
 vF 19 4 2,
 vL 20 1 19,
 vN 21 127 [(.s 17), (.s 18), (.s 20)],
 vM 16 21,
 vP 22 (.ex (.s 16) 0),
 vP 23 (.ex (.s 16) 1),
 vM 9 22,
 vM 10 23])
 (.seq (.region [vM 24 9,
 vF 25 5 3,
 vL 26 1 25,
 vF 27 4 4,
 vL 28 1 27,
 vP 29 (vb .sub 26 28),
 vF 30 5 4,
 vL 31 1 30,
 vF 32 4 3,
 vL 33 1 32,
 vP 34 (vb .sub 31 33),
 vN 35 91 [(.s 24), (.s 29), (.s 34)],
 vM 36 10,
 vM 6 35,
 vM 7 36])
 (.ret))))
def k129 : Cd :=
  .seq (.region [vP 3 (.box 3 1 (.s 1)),
 vP 4 (.mv (.c (.bool false)))])
 (.seq (.region [vM 5 0,
 vN 6 153 [(.s 5)],
 vP 7 (.mkf (.func 154) [] [(.s 3)]),
 vN 8 152 [(.s 6), (.s 7)],
 vM 4 8])
 (.ret))
def k130l0 : Cd :=
  .seq (.region [vP 14 (vb .lss 13 12)])
 (.seq (.cond (.s 14) (.skip)
 (.exit 0))
 (.seq (.block 1 (.seq (.region [vI 15 5 11 13,
 vP 16 (.ld true 5 (.s 15)),
 vP 6 (.alloc 130 [(.int .i64 0), (.int .i64 0), (.int .i64 0), (.int .i64 0), (.int .i64 0)]),
 ⟨none, none, .inl (.st 5 (.s 6) (.s 16))⟩])
 (.seq (.region [vP 17 (.ld true 5 (.s 6)),
 vN 18 150 [(.s 17)],
 vM 7 18])
 (.seq (.region [vM 19 7,
 vP 20 (vc .neq 19 0)])
 (.cond (.s 20) (.seq (.region [vM 21 7,
 vM 4 21])
 (.ret))
 (.skip))))))
 (.region [vP 22 (vc .add 13 1),
 vM 13 22])))
def k130 : Cd :=
  .seq (.region [vP 3 (.box 141 2 (.s 1)),
 vP 4 (.mv (vi 0))])
 (.seq (.seq (.region [vM 8 0,
 vP 9 (.len (.s 8)),
 vP 10 (vc .gtr 9 8)])
 (.cond (.s 10) (.seq (.region [vP 4 (.mv (vi 2))])
 (.ret))
 (.skip)))
 (.seq (.seq (.region [vM 11 0,
 vP 12 (.len (.s 11)),
 vP 13 (.mv (vi 0))])
 (.block 0 (.loop k130l0)))
 (.seq (.seq (.region [vF 23 3 0,
 vL 24 1 23,
 vP 25 (.bin .lss (.s 24) (.c (.int .i64 (-100000)))),
 vM 26 25,
 vU 26 27 (.fa (.s 3) 0),
 vU 26 28 (.ld false 1 (.s 27)),
 vU 26 29 (.fa (.s 3) 1),
 vU 26 30 (.ld false 1 (.s 29)),
 vU 26 31 (vb .gtr 28 30),
 vP 32 (.pick (.s 26) (.c (.bool true)) (.s 31)),
 vM 33 32,
 vU 33 34 (.fa (.s 3) 1),
 vU 33 35 (.ld false 1 (.s 34)),
 vU 33 36 (vc .gtr 35 100000),
 vP 37 (.pick (.s 33) (.c (.bool true)) (.s 36))])
 (.cond (.s 37) (.seq (.region [vP 4 (.mv (vi 60))])
 (.ret))
 (.skip)))
 (.seq (.region [vP 4 (.mv (vi 0))])
 (.ret)))))
def k131 : Cd :=
  .seq (.region [vP 3 (.box 128 2 (.s 0)),
 vP 6 (.alloc 175 [(.slice none 0 0), (.slice none 0 0), (.slice none 0 0), (.int .i64 0), (.slice none 0 0)]),
 vP 7 (.mv (vi 0))])
 (.seq (.seq (.region [vP 13 (.ld true 2 (.s 3)),
 vN 14 155 [(.s 13)],
 vM 8 14])
 (.seq (.region [vM 15 8,
 vP 16 (vc .neq 15 0)])
 (.cond (.s 16) (.seq (.region [vP 17 (.bld [(.slice none 0 0), (.slice none 0 0), (.slice none 0 0), (.int .i64 0), (.slice none 0 0)] []),
 vM 18 8,
 ⟨none, none, .inl (.st 5 (.s 6) (.s 17))⟩,
 vM 7 18])
 (.ret))
 (.skip))))
 (.seq (.region [vP 19 (.ld true 2 (.s 3)),
 vN 20 156 [(.s 19)],
 vP 9 (.alloc 40 [(.slice none 0 0)]),
 ⟨none, none, .inl (.st 1 (.s 9) (.s 20))⟩])
 (.seq (.region [vP 21 (.mkf (.func 157) [] [(.s 9)]),
 vP 10 (.alloc 67 [.nilFunc]),
 ⟨none, none, .inl (.st 1 (.s 10) (.s 21))⟩])
 (.seq (.seq (.region [vL 22 1 10,
 vM 23 2,
 ⟨none, some 24, .inr (.val false (.s 22) [(.s 23)])⟩,
 vM 25 24,
 vU 25 26 (.mv (.s 1)),
 vU 25 27 (.mkf (.func 159) [] [(.s 10)]),
 ⟨some (25, false), some 28, .inr (.fn 158 [(.s 26), (.s 27)])⟩,
 vP 29 (.pick (.s 25) (.c (.bool true)) (.s 28))])
 (.cond (.s 29) (.seq (.region [vP 30 (.bld [(.slice none 0 0), (.slice none 0 0), (.slice none 0 0), (.int .i64 0), (.slice none 0 0)] []),
 ⟨none, none, .inl (.st 5 (.s 6) (.s 30))⟩,
 vP 7 (.mv (vi 3))])
 (.ret))
 (.skip)))
 (.seq (.region [vP 32 (.ld true 2 (.s 3)),
 vN 33 160 [(.s 32)],
 vM 31 33,
 vP 34 (.ex (.s 31) 0),
 vP 35 (.ex (.s 31) 1),
 vM 11 34,
 vM 12 35])
 (.seq (.seq (.region [vM 36 11,
 vP 37 (.len (.s 36)),
 vP 38 (vc .eql 37 0)])
 (.cond (.s 38) (.seq (.region [vP 39 (.bld [(.slice none 0 0), (.slice none 0 0), (.slice none 0 0), (.int .i64 0), (.slice none 0 0)] []),
 ⟨none, none, .inl (.st 5 (.s 6) (.s 39))⟩,
 vP 7 (.mv (vi 25))])
 (.ret))
 (.skip)))
 (.seq (.draw [vD (vP 40 (.ld true 2 (.s 3))) 0,
 vD (vL 41 1 9) 0,
 vD (vL 42 1 9) 0,
 vD (vM 43 2) 0,
 vD (vN 44 123 [(.s 42), (.s 43)]) 12,
 vD (vM 45 11) 0,
 vD (vP 46 (.bld [(.slice none 0 0), (.slice none 0 0), (.slice none 0 0), (.int .i64 0), (.slice none 0 0)] [(0, 2, (.s 40)), (2, 1, (.s 41)), (3, 1, (.s 44)), (4, 1, (.s 45))])) 63,
 ⟨⟨none, none, .inl (.st 5 (.s 6) (.s 46))⟩, (some [.at 6]), [], 127, false⟩,
 vD (vP 7 (.mv (vi 0))) 255])
 (.ret))))))))
def k132l0 : Cd :=
  .seq (.region [vP 48 (vb .lss 47 46)])
 (.seq (.cond (.s 48) (.skip)
 (.exit 2))
 (.seq (.block 3 (.seq (.region [vI 49 2 45 47,
 vP 50 (.ld true 2 (.s 49)),
 vP 14 (.alloc 141 [(.int .i64 0), (.int .i64 0)]),
 ⟨none, none, .inl (.st 2 (.s 14) (.s 50))⟩])
 (.draw [vD (vM 51 9) 0,
 vD (vM 52 10) 0,
 vD (vM 53 9) 0,
 vD (vM 54 10) 0,
 vD (vI 55 1 53 54) 12,
 ⟨vL 56 1 55, some [], [.fr 60], 28, false⟩,
 vD (vP 57 (.ld true 2 (.s 14))) 0,
 vD (vM 58 12) 0,
 vD (vP 59 (.bld [(.int .i64 0), (.int .i64 0), (.int .i64 0), (.bool false)] [(0, 2, (.s 57)), (2, 1, (.s 58)), (3, 1, (.c (.bool true)))])) 192,
 ⟨vP 60 (.bs 213 4 1 [(.int .i64 0), (.int .i64 0), (.int .i64 0), (.bool false)] [(0, (.s 59))]), (some [.fr 60]), [], 448, false⟩,
 ⟨vP 61 (.app 213 4 32 (.s 56) (.s 60)), (some [.fr 61, .at 56]), [], 1020, false⟩,
 vD (vI 62 1 51 52) 2047,
 ⟨⟨none, none, .inl (.st 1 (.s 62) (.s 61))⟩, (some [.at 9]), [], 4095, false⟩])))
 (.region [vP 63 (vc .add 47 1),
 vM 47 63])))
def k132l1 : Cd :=
  .seq (.region [vP 74 (vb .lss 73 72)])
 (.seq (.cond (.s 74) (.skip)
 (.exit 4))
 (.seq (.block 5 (.seq (.region [vI 75 2 71 73,
 vP 76 (.ld true 2 (.s 75)),
 vP 16 (.alloc 141 [(.int .i64 0), (.int .i64 0)]),
 ⟨none, none, .inl (.st 2 (.s 16) (.s 76))⟩])
 (.draw [vD (vM 77 9) 0,
 vD (vM 78 10) 0,
 vD (vM 79 9) 0,
 vD (vM 80 10) 0,
 vD (vI 81 1 79 80) 12,
 ⟨vL 82 1 81, some [], [.fr 86], 28, false⟩,
 vD (vP 83 (.ld true 2 (.s 16))) 0,
 vD (vM 84 12) 0,
 vD (vP 85 (.bld [(.int .i64 0), (.int .i64 0), (.int .i64 0), (.bool false)] [(0, 2, (.s 83)), (2, 1, (.s 84)), (3, 1, (.c (.bool false)))])) 192,
 ⟨vP 86 (.bs 213 4 1 [(.int .i64 0), (.int .i64 0), (.int .i64 0), (.bool false)] [(0, (.s 85))]), (some [.fr 86]), [], 448, false⟩,
 ⟨vP 87 (.app 213 4 32 (.s 82) (.s 86)), (some [.fr 87, .at 82]), [], 1020, false⟩,
 vD (vI 88 1 77 78) 2047,
 ⟨⟨none, none, .inl (.st 1 (.s 88) (.s 87))⟩, (some [.at 9]), [], 4095, false⟩])))
 (.region [vP 89 (vc .add 73 1),
 vM 73 89])))
def k132l2 : Cd :=
  .seq (.region [vP 29 (vb .lss 28 27)])
 (.seq (.cond (.s 29) (.skip)
 (.exit 0))
 (.seq (.block 1 (.seq (.region [vM 30 28,
 vI 31 5 26 28,
 vP 32 (.ld true 5 (.s 31)),
 vP 11 (.alloc 130 [(.int .i64 0), (.int .i64 0), (.int .i64 0), (.int .i64 0), (.int .i64 0)]),
 vM 10 30,
 ⟨none, none, .inl (.st 5 (.s 11) (.s 32))⟩])
 (.seq (.region [vF 33 3 2,
 vL 34 1 33,
 vF 35 11 2,
 vL 36 1 35,
 vN 37 123 [(.s 34), (.s 36)],
 vM 12 37])
 (.seq (.seq (.region [vM 38 7,
 vF 39 11 4,
 vL 40 1 39,
 vP 41 (.neg (.s 40)),
 vF 42 11 3,
 vL 43 1 42,
 vP 44 (.neg (.s 43)),
 vN 45 91 [(.s 38), (.s 41), (.s 44)],
 vP 46 (.len (.s 45)),
 vP 47 (.mv (vi 0))])
 (.block 2 (.loop k132l0)))
 (.seq (.region [vM 64 8,
 vF 65 11 4,
 vL 66 1 65,
 vP 67 (.neg (.s 66)),
 vF 68 11 3,
 vL 69 1 68,
 vP 70 (.neg (.s 69)),
 vN 71 91 [(.s 64), (.s 67), (.s 70)],
 vP 72 (.len (.s 71)),
 vP 73 (.mv (vi 0))])
 (.block 4 (.loop k132l1)))))))
 (.region [vP 90 (vc .add 28 1),
 vM 28 90])))
def k132 : Cd :=
  .seq (.region [vP 3 (.box 175 5 (.s 0)),
 vP 5 (.box 141 2 (.s 2)),
 vP 6 (.mv (.c (.slice none 0 0)))])
 (.seq (.region [vP 17 (.ld true 2 (.s 5)),
 vP 18 (.bs 141 2 1 [(.int .i64 0), (.int .i64 0)] [(0, (.s 17))]),
 vM 7 18])
 (.seq (.region [vP 19 (.bld [(.int .i64 0), (.int .i64 0)] [(0, 1, (.c (.int .i64 (-1000000000)))), (1, 1, (vi 1000000000))]),
 vP 20 (.bst 141 2 1 [(.int .i64 0), (.int .i64 0)] [(0, (.s 19))]),
 vM 21 7,
 vN 22 161 [(.s 20), (.s 21)],
 vM 8 22])
 (.seq (.region [vM 23 1,
 vP 24 (.len (.s 23)),
 vP 25 (.mks 186 1 24 [(.slice none 0 0)] (.s 24) (.s 24)),
 vM 9 25])
 (.seq (.seq (.region [vM 26 1,
 vP 27 (.len (.s 26)),
 vP 28 (.mv (vi 0))])
 (.block 0 (.loop k132l2)))
 (.seq (.region [vM 91 9,
 vM 6 91])
 (.ret))))))
def k133l0 : Cd :=
  .seq (.region [vP 40 (vb .lss 39 38)])
 (.seq (.cond (.s 40) (.skip)
 (.exit 0))
 (.seq (.block 1 (.seq (.region [vM 41 39,
 vM 10 41])
 (.seq (.draw [vD (vF 42 9 5) 0,
 ⟨vL 43 1 42, some [], [.keep 9], 1, false⟩,
 vD (vM 44 10) 0,
 ⟨vP 45 (.bst 3 1 1 [(.int .i64 0)] [(0, (vi 1000000000))]), (some [.fr 45]), [.av 9], 0, false⟩,
 vD (vF 46 2 2) 0,
 ⟨vL 47 1 46, some [], [.fr 45], 16, false⟩,
 vD (vP 48 (.len (.s 47))) 48,
 ⟨vN 49 141 [(.s 45), (.s 48)], none, [.av 9], 120, false⟩,
 vD (vI 50 1 43 44) 255,
 ⟨⟨none, none, .inl (.st 1 (.s 50) (.s 49))⟩, (some [.at 43]), [], 511, false⟩])
 (.region [vF 51 9 5,
 vL 52 1 51,
 vM 53 10,
 vI 54 1 52 53,
 vL 55 1 54,
 vM 56 10,
 vI 57 1 55 56,
 ⟨none, none, .inl (.st 1 (.s 57) (vi 0))⟩]))))
 (.region [vP 58 (vc .add 39 1),
 vM 39 58])))
def k133l1 : Cd :=
  .seq (.region [vP 67 (vb .lss 66 65)])
 (.seq (.cond (.s 67) (.skip)
 (.exit 2))
 (.seq (.block 3 (.seq (.region [vM 68 66,
 vI 69 1 64 66,
 vL 70 1 69,
 vM 12 68,
 vM 13 70])
 (.region [vM 71 11,
 vM 72 12,
 vF 73 2 2,
 vL 74 1 73,
 vM 75 13,
 vN 76 123 [(.s 74), (.s 75)],
 vI 77 1 71 72,
 ⟨none, none, .inl (.st 1 (.s 77) (.s 76))⟩])))
 (.region [vP 78 (vc .add 66 1),
 vM 66 78])))
def k133l2 : Cd :=
  .seq (.region [vP 90 (vb .lss 89 88)])
 (.seq (.cond (.s 90) (.skip)
 (.exit 6))
 (.seq (.block 7 (.seq (.region [vM 91 89,
 vI 92 1 87 89,
 vL 93 1 92,
 vM 16 91,
 vM 17 93])
 (.draw [vD (vF 94 9 5) 0,
 vD (vL 95 1 94) 1,
 vD (vM 96 11) 0,
 vD (vM 97 14) 0,
 vD (vI 98 1 96 97) 12,
 vD (vL 99 1 98) 28,
 vD (vI 100 1 95 99) 63,
 vD (vL 101 1 100) 127,
 vD (vM 102 11) 0,
 vD (vM 103 16) 0,
 vD (vI 104 1 102 103) 768,
 vD (vL 105 1 104) 1792,
 vD (vM 106 17) 0,
 vD (vI 107 1 101 105) 8191,
 ⟨⟨none, none, .inl (.st 1 (.s 107) (.s 106))⟩, (some [.at 101]), [], 16383, false⟩])))
 (.region [vP 108 (vc .add 89 1),
 vM 89 108])))
def k133l3 : Cd :=
  .seq (.region [vP 83 (vb .lss 82 81)])
 (.seq (.cond (.s 83) (.skip)
 (.exit 4))
 (.seq (.block 5 (.seq (.region [vM 84 82,
 vI 85 1 80 82,
 vL 86 1 85,
 vM 14 84,
 vM 15 86])
 (.seq (.region [vM 87 15,
 vP 88 (.len (.s 87)),
 vP 89 (.mv (vi 0))])
 (.block 6 (.loop k133l2)))))
 (.region [vP 109 (vc .add 82 1),
 vM 82 109])))
def k133 : Cd :=
  .seq (.region [vP 2 (.box 175 5 (.s 0)),
 vP 4 (.alloc 183 [(.slice none 0 0), (.slice none 0 0), (.slice none 0 0), (.int .i64 0), (.slice none 0 0), (.slice none 0 0)])])
 (.seq (.region [vF 19 2 0,
 vP 20 (.ld true 2 (.s 19)),
 vM 21 1,
 vN 22 162 [(.s 20), (.s 21)],
 vM 18 22,
 vP 23 (.ex (.s 18) 0),
 vP 24 (.ex (.s 18) 1),
 vM 5 23,
 vM 6 24])
 (.seq (.region [vM 26 5,
 vN 27 163 [(.s 26)],
 vM 25 27,
 vP 28 (.ex (.s 25) 0),
 vP 29 (.ex (.s 25) 1),
 vP 7 (.alloc 88 [(.slice none 0 0), (.slice none 0 0)]),
 ⟨none, none, .inl (.st 2 (.s 7) (.s 28))⟩,
 vM 8 29])
 (.seq (.draw [⟨vP 30 (.ld true 5 (.s 2)), some [], [.fr 34, .fr 9], 0, false⟩,
 vD (vF 31 2 2) 0,
 ⟨vL 32 1 31, some [], [.fr 9], 2, false⟩,
 vD (vP 33 (.len (.s 32))) 6,
 ⟨vP 34 (.mks 40 1 24 [(.slice none 0 0)] (.s 33) (.s 33)), (some [.fr 34]), [.fr 9], 14, false⟩,
 vD (vP 35 (.bld [(.slice none 0 0), (.slice none 0 0), (.slice none 0 0), (.int .i64 0), (.slice none 0 0), (.slice none 0 0)] [(0, 5, (.s 30)), (5, 1, (.s 34))])) 31,
 ⟨vP 9 (.alloc 183 [(.slice none 0 0), (.slice none 0 0), (.slice none 0 0), (.int .i64 0), (.slice none 0 0), (.slice none 0 0)]), (some [.fr 9]), [.fr 34], 0, false⟩,
 ⟨⟨none, none, .inl (.st 6 (.s 9) (.s 35))⟩, (some [.fr 9]), [], 127, false⟩])
 (.seq (.seq (.region [vF 36 9 5,
 vL 37 1 36,
 vP 38 (.len (.s 37)),
 vP 39 (.mv (vi 0))])
 (.block 0 (.loop k133l0)))
 (.seq (.region [vF 59 7 0,
 vL 60 1 59,
 vP 61 (.len (.s 60)),
 vP 62 (.mks 3 1 8 [(.int .i64 0)] (.s 61) (.s 61)),
 vM 11 62])
 (.seq (.seq (.region [vF 63 7 0,
 vL 64 1 63,
 vP 65 (.len (.s 64)),
 vP 66 (.mv (vi 0))])
 (.block 2 (.loop k133l1)))
 (.seq (.seq (.region [vF 79 7 1,
 vL 80 1 79,
 vP 81 (.len (.s 80)),
 vP 82 (.mv (vi 0))])
 (.block 4 (.loop k133l3)))
 (.seq (.region [vP 110 (.ld true 6 (.s 9)),
 ⟨none, none, .inl (.st 6 (.s 4) (.s 110))⟩])
 (.ret)))))))))
def k134 : Cd :=
  .seq (.region [vP 2 (.box 183 6 (.s 0)),
 vP 3 (.box 178 1 (.s 1)),
 vP 4 (.mv (.c .nilFunc))])
 (.seq (.region [vP 5 (.mkf (.func 164) [] [(.s 2), (.s 3)]),
 vM 4 5])
 (.ret))
def k135l0 : Cd :=
  .seq (.region [vP 9 (vb .lss 8 7)])
 (.seq (.cond (.s 9) (.skip)
 (.exit 0))
 (.seq (.block 1 (.seq (.region [vI 10 4 6 8,
 vP 11 (.ldv true 4 (.s 10)),
 vP 5 (.alloc 213 [(.int .i64 0), (.int .i64 0), (.int .i64 0), (.bool false)]),
 ⟨none, none, .inl (.st 4 (.s 5) (.s 11))⟩])
 (.seq (.region [vF 12 5 3,
 vL 13 1 12])
 (.cond (.s 13) (.region [vM 14 3,
 vP 15 (vc .add 14 1),
 vM 3 15])
 (.skip)))))
 (.region [vP 16 (vc .add 8 1),
 vM 8 16])))
def k135 : Cd :=
  .seq (.region [vP 2 (.mv (vi 0))])
 (.seq (.region [vP 3 (.mv (vi 0))])
 (.seq (.seq (.region [vM 6 0,
 vP 7 (.len (.s 6)),
 vP 8 (.mv (vi 0))])
 (.block 0 (.loop k135l0)))
 (.seq (.region [vM 17 3,
 vM 2 17])
 (.ret))))
def k136 : Cd :=
  .seq (.region [vP 2 (.mv (.c (.slice none 0 0)))])
 (.seq (.region [vM 3 0,
 vN 4 166 [(.s 3), (.c (.slice none 0 0)), (.f 167)],
 vM 2 4])
 (.ret))
def k137 : Cd :=
  .seq (.region [vP 2 (.mv (.c (.bool false)))])
 (.seq (.region [vM 3 0,
 vN 4 81 [(.s 3), (vi 0), (vi 200000)],
 vP 5 (.not (.s 4)),
 vM 2 5])
 (.ret))
def k138l0 : Cd :=
  .seq (.region [vP 9 (vb .lss 8 7)])
 (.seq (.cond (.s 9) (.skip)
 (.exit 0))
 (.seq (.block 1 (.seq (.region [vI 10 5 6 8,
 vP 11 (.ld true 5 (.s 10)),
 vP 5 (.alloc 70 [(.int .i64 0), (.int .i64 0), (.int .i64 0), (.int .i64 0), (.int .i64 0)]),
 ⟨none, none, .inl (.st 5 (.s 5) (.s 11))⟩])
 (.seq (.region [vM 12 0,
 vF 13 5 0,
 vL 14 1 13,
 vN 15 168 [(.s 12), (.s 14)]])
 (.region [vM 16 0,
 vF 17 5 1,
 vL 18 1 17,
 vN 19 168 [(.s 16), (.s 18)]]))))
 (.region [vP 20 (vc .add 8 1),
 vM 8 20])))
def k138 : Cd :=
  .seq (.region [vM 6 1,
 vP 7 (.len (.s 6)),
 vP 8 (.mv (vi 0))])
 (.block 0 (.loop k138l0))
def k139l0 : Cd :=
  .seq (.seq (.region [vM 14 5,
 vP 15 (.bin .neq (.s 14) (.c (.int .u64 0)))])
 (.cond (.s 15) (.skip)
 (.exit 2)))
 (.seq (.block 3 (.region [vM 20 3,
 vM 21 4,
 vP 22 (.bin .mul (vi 64) (.s 21)),
 vM 23 5,
 vN 24 169 [(.s 23)],
 vP 25 (vb .add 22 24),
 vP 26 (.bs 3 1 1 [(.int .i64 0)] [(0, (.s 25))]),
 vP 27 (.app 3 1 8 (.s 20) (.s 26)),
 vM 3 27]))
 (.region [vM 16 5,
 vM 17 5,
 vP 18 (.bin .sub (.s 17) (.c (.int .u64 1))),
 vP 19 (vb .and 16 18),
 vM 5 19]))
def k139l1 : Cd :=
  .seq (.region [vP 11 (vc .lss 10 33)])
 (.seq (.cond (.s 11) (.skip)
 (.exit 0))
 (.seq (.block 1 (.seq (.region [vM 12 10,
 vP 13 (.ixa false 1 33 (.s 9) (.s 10)),
 vM 4 12,
 vM 5 13])
 (.block 2 (.loop k139l0))))
 (.region [vP 28 (vc .add 10 1),
 vM 10 28])))
def k139 : Cd :=
  .seq (.region [vP 2 (.mv (.c (.slice none 0 0)))])
 (.seq (.region [vP 3 (.mv (.c (.slice none 0 0)))])
 (.seq (.seq (.region [vM 6 0,
 vP 7 (.nc (.s 6)),
 vF 8 7 0,
 vP 9 (.ld true 33 (.s 8)),
 vP 10 (.mv (vi 0))])
 (.block 0 (.loop k139l1)))
 (.seq (.region [vM 29 3,
 vM 2 29])
 (.ret))))
def k140l0 : Cd :=
  .seq (.seq (.region [vM 13 7,
 vM 14 8,
 vP 15 (vb .lss 13 14)])
 (.cond (.s 15) (.skip)
 (.exit 0)))
 (.block 1 (.seq (.region [vM 16 7,
 vM 17 8,
 vP 18 (vb .add 16 17),
 vP 19 (.cvi .u64 (.s 18)),
 vP 20 (.bin .shr (.s 19) (.c (.int .u64 1))),
 vP 21 (.cvi .i64 (.s 20)),
 vM 9 21])
 (.seq (.region [vM 22 0,
 vM 23 9,
 vI 24 1 22 23,
 vL 25 1 24,
 vM 26 1,
 vN 27 170 [(.s 25), (.s 26)]])
 (.cond (.s 27) (.region [vM 28 9,
 vP 29 (vc .add 28 1),
 vM 7 29])
 (.region [vM 30 9,
 vM 8 30])))))
def k140 : Cd :=
  .seq (.region [vP 4 (.mv (vi 0)),
 vP 5 (.mv (.c (.bool false)))])
 (.seq (.region [vM 10 0,
 vP 11 (.len (.s 10)),
 vM 6 11])
 (.seq (.region [vM 12 6,
 vP 7 (.mv (vi 0)),
 vM 8 12])
 (.seq (.block 0 (.loop k140l0))
 (.seq (.region [vM 31 7,
 vM 32 7,
 vM 33 6,
 vP 34 (vb .lss 32 33),
 vM 35 34,
 vT 35 36 (.mv (.s 0)),
 vT 35 37 (.mv (.s 7)),
 vT 35 38 (.ias 1 (.s 36) (.s 37)),
 vT 35 39 (.ld false 1 (.s 38)),
 vT 35 40 (.mv (.s 1)),
 vT 35 41 (vb .eql 39 40),
 vT 35 42 (.mv (.s 41)),
 vU 42 43 (.mv (.s 0)),
 vU 42 44 (.mv (.s 7)),
 vU 42 45 (.ias 1 (.s 43) (.s 44)),
 vU 42 46 (.ld false 1 (.s 45)),
 ⟨some (42, false), some 47, .inr (.fn 171 [(.s 46)])⟩,
 vU 42 48 (.mv (.s 47)),
 vT 48 49 (.mv (.s 1)),
 ⟨some (48, true), some 50, .inr (.fn 171 [(.s 49)])⟩,
 vU 42 51 (.pick (.s 48) (.s 50) (.c (.bool false))),
 vT 35 52 (.pick (.s 42) (.c (.bool true)) (.s 51)),
 vP 53 (.pick (.s 35) (.s 52) (.c (.bool false))),
 vM 4 31,
 vM 5 53])
 (.ret)))))
def k141l0 : Cd :=
  .seq (.seq (.region [vM 34 8,
 vM 35 7,
 vP 36 (.len (.s 35)),
 vP 37 (vb .lss 34 36)])
 (.cond (.s 37) (.skip)
 (.exit 0)))
 (.block 1 (.draw [vD (vM 38 8) 0,
 vD (vM 39 7) 0,
 vD (vM 40 8) 0,
 vD (vP 41 (.slc 1 (.s 39) (some (.s 40)) none none)) 6,
 vD (vM 42 7) 0,
 vD (vM 43 8) 0,
 vD (vP 44 (.slc 1 (.s 42) none (some (.s 43)) none)) 48,
 ⟨vP 45 (.cpy 1 (.s 41) (.s 44)), (some [.at 7]), [], 126, false⟩,
 vD (vP 46 (vb .add 38 45)) 255,
 vD (vM 8 46) 511]))
def k141 : Cd :=
  .seq (.region [vP 4 (.mv (.c (.slice none 0 0)))])
 (.seq (.seq (.region [vM 9 1,
 vP 10 (vc .lss 9 0)])
 (.cond (.s 10) (.region [⟨none, some 11, .inl (.mki 9 (.c (.string ⟨#[99, 97, 110, 110, 111, 116, 32, 98, 101, 32, 110, 101, 103, 97, 116, 105, 118, 101]⟩)))⟩,
 ⟨none, none, .inr (.pan (.s 11))⟩])
 (.skip)))
 (.seq (.region [vM 13 0,
 vP 14 (.len (.s 13)),
 vP 15 (.cvi .u64 (.s 14)),
 vM 16 1,
 vP 17 (.cvi .u64 (.s 16)),
 vN 18 172 [(.s 15), (.s 17)],
 vM 12 18,
 vP 19 (.ex (.s 12) 0),
 vP 20 (.ex (.s 12) 1),
 vM 5 19,
 vM 6 20])
 (.seq (.seq (.region [vM 21 5,
 vP 22 (.bin .gtr (.s 21) (.c (.int .u64 0))),
 vM 23 22,
 vU 23 24 (.mv (.s 6)),
 vU 23 25 (.bin .gtr (.s 24) (.c (.int .u64 9223372036854775807))),
 vP 26 (.pick (.s 23) (.c (.bool true)) (.s 25))])
 (.cond (.s 26) (.region [⟨none, some 27, .inl (.mki 9 (.c (.string ⟨#[116, 104, 101, 32, 114, 101, 115, 117, 108, 116, 32, 111, 102, 32, 40, 108, 101, 110, 40, 120, 41, 32, 42, 32, 99, 111, 117, 110, 116, 41, 32, 111, 118, 101, 114, 102, 108, 111, 119, 115]⟩)))⟩,
 ⟨none, none, .inr (.pan (.s 27))⟩])
 (.skip)))
 (.seq (.region [vM 28 6,
 vP 29 (.cvi .i64 (.s 28)),
 vP 30 (.mks 3 1 8 [(.int .i64 0)] (.s 29) (.s 29)),
 vM 7 30])
 (.seq (.region [vM 31 7,
 vM 32 0,
 vP 33 (.cpy 1 (.s 31) (.s 32)),
 vM 8 33])
 (.seq (.block 0 (.loop k141l0))
 (.seq (.region [vM 47 7,
 vM 4 47])
 (.ret))))))))
def k150 : Cd :=
  .seq (.region [vP 1 (.box 130 5 (.s 0)),
 vP 2 (.mv (vi 0))])
 (.seq (.seq (.region [vP 3 (.ld true 5 (.s 1)),
 vN 4 175 [(.s 3)],
 vP 5 (.not (.s 4))])
 (.cond (.s 5) (.seq (.region [vP 2 (.mv (vi 61))])
 (.ret))
 (.skip)))
 (.seq (.region [vP 2 (.mv (vi 0))])
 (.ret)))
def k151 : Cd :=
  .seq (.region [vP 3 (.box 128 2 (.s 0)),
 vP 4 (.box 3 1 (.s 1)),
 vP 5 (.box 3 1 (.s 2)),
 vP 6 (.mv (.c (.slice none 0 0))),
 vP 7 (.mv (vi 0))])
 (.seq (.seq (.region [vP 10 (.ld true 2 (.s 3)),
 vL 11 1 4,
 vL 12 1 5,
 vN 13 176 [(.s 10), (.s 11), (.s 12)],
 vM 8 13])
 (.seq (.region [vM 14 8,
 vP 15 (vc .neq 14 0)])
 (.cond (.s 15) (.seq (.region [vM 16 8,
 vP 6 (.mv (.c (.slice none 0 0))),
 vM 7 16])
 (.ret))
 (.skip))))
 (.seq (.region [vP 9 (.alloc 131 [(.slice none 0 0)])])
 (.seq (.region [vP 17 (.ld true 2 (.s 3)),
 vP 18 (.mkf (.func 178) [] [(.s 4), (.s 5), (.s 9)]),
 vN 19 177 [(.s 17), (.s 18)]])
 (.seq (.seq (.region [vL 20 1 9,
 vP 21 (.len (.s 20)),
 vP 22 (vc .eql 21 0)])
 (.cond (.s 22) (.seq (.region [vP 6 (.mv (.c (.slice none 0 0))),
 vP 7 (.mv (vi 25))])
 (.ret))
 (.skip)))
 (.seq (.region [vL 23 1 9,
 vN 24 180 [(.s 23)],
 vM 6 24,
 vP 7 (.mv (vi 0))])
 (.ret))))))
def k152 : Cd :=
  .seq (.region [vP 4 (.mv (.c (.bool false)))])
 (.seq (.region [vM 5 0,
 vM 6 1,
 vN 7 181 [(.s 5), (.s 6)],
 vP 8 (vc .geq 7 0),
 vM 4 8])
 (.ret))
def k153l0 : Cd :=
  .seq (.region [vP 9 (vb .lss 8 7)])
 (.seq (.cond (.s 9) (.skip)
 (.exit 0))
 (.seq (.block 1 (.seq (.region [vI 10 2 6 8,
 vP 11 (.ld true 2 (.s 10)),
 vP 5 (.alloc 141 [(.int .i64 0), (.int .i64 0)]),
 ⟨none, none, .inl (.st 2 (.s 5) (.s 11))⟩])
 (.seq (.region [vF 12 5 0,
 vL 13 1 12,
 vP 14 (.mm true (.s 13) (.c (.int .i64 (-1000000000)))),
 vF 15 5 1,
 vL 16 1 15,
 vP 17 (.mm false (.s 16) (vi 1000000000)),
 vP 18 (.bld [(.int .i64 0), (.int .i64 0)] [(0, 1, (.s 14)), (1, 1, (.s 17))]),
 ⟨none, none, .inl (.st 2 (.s 5) (.s 18))⟩])
 (.seq (.region [vF 19 5 0,
 vL 20 1 19,
 vF 21 5 1,
 vL 22 1 21,
 vP 23 (vb .leq 20 22)])
 (.cond (.s 23) (.region [vM 24 3,
 vP 25 (.ld true 2 (.s 5)),
 vP 26 (.bs 141 2 1 [(.int .i64 0), (.int .i64 0)] [(0, (.s 25))]),
 vP 27 (.app 141 2 16 (.s 24) (.s 26)),
 vM 3 27])
 (.skip))))))
 (.region [vP 28 (vc .add 8 1),
 vM 8 28])))
def k153 : Cd :=
  .seq (.region [vP 2 (.mv (.c (.slice none 0 0)))])
 (.seq (.region [vP 3 (.mv (.c (.slice none 0 0)))])
 (.seq (.seq (.region [vM 6 0,
 vP 7 (.len (.s 6)),
 vP 8 (.mv (vi 0))])
 (.block 0 (.loop k153l0)))
 (.seq (.region [vM 29 3,
 vM 2 29])
 (.ret))))
def k154 : Cd :=
  .seq (.region [vP 2 (.box 141 2 (.s 0)),
 vP 3 (.mv (.c (.bool false)))])
 (.seq (.region [vL 4 1 1,
 vF 5 2 0,
 vL 6 1 5,
 vF 7 2 1,
 vL 8 1 7,
 vN 9 81 [(.s 4), (.s 6), (.s 8)],
 vM 3 9])
 (.ret))
def k155l0 : Cd :=
  .seq (.region [vP 25 (vb .lss 24 23)])
 (.seq (.cond (.s 25) (.skip)
 (.exit 0))
 (.seq (.block 1 (.seq (.region [vI 26 2 22 24,
 vP 27 (.ld true 2 (.s 26)),
 vP 5 (.alloc 235 [(.int .i64 0), (.slice none 0 0)]),
 ⟨none, none, .inl (.st 2 (.s 5) (.s 27))⟩])
 (.seq (.region [vP 28 (.ld true 2 (.s 5)),
 vN 29 182 [(.s 28)],
 vM 6 29])
 (.seq (.region [vM 30 6,
 vP 31 (vc .neq 30 0)])
 (.cond (.s 31) (.seq (.region [vM 32 6,
 vM 2 32])
 (.ret))
 (.skip))))))
 (.region [vP 33 (vc .add 24 1),
 vM 24 33])))
def k155l1 : Cd :=
  .seq (.region [vP 41 (vb .lss 40 39)])
 (.seq (.cond (.s 41) (.skip)
 (.exit 2))
 (.seq (.block 3 (.seq (.region [vI 42 2 38 40,
 vP 43 (.ld true 2 (.s 42)),
 vP 10 (.alloc 235 [(.int .i64 0), (.slice none 0 0)]),
 ⟨none, none, .inl (.st 2 (.s 10) (.s 43))⟩])
 (.seq (.region [vM 44 7,
 vF 45 10 1,
 vL 46 1 45,
 vP 47 (.len (.s 46)),
 vP 48 (vb .mul 44 47),
 vM 7 48])
 (.region [vM 49 8,
 vP 50 (.ld true 2 (.s 10)),
 vN 51 183 [(.s 50)],
 vP 52 (vb .add 49 51),
 vM 8 52]))))
 (.region [vP 53 (vc .add 40 1),
 vM 40 53])))
def k155 : Cd :=
  .seq (.region [vP 1 (.box 128 2 (.s 0)),
 vP 2 (.mv (vi 0))])
 (.seq (.seq (.region [vF 11 1 0,
 vL 12 1 11,
 vN 13 38 [(.s 12)],
 vM 3 13])
 (.seq (.region [vM 14 3,
 vP 15 (vc .neq 14 0)])
 (.cond (.s 15) (.seq (.region [vM 16 3,
 vM 2 16])
 (.ret))
 (.skip))))
 (.seq (.seq (.region [vF 17 1 1,
 vL 18 1 17,
 vP 19 (.len (.s 18)),
 vP 20 (vc .gtr 19 6)])
 (.cond (.s 20) (.seq (.region [vP 2 (.mv (vi 2))])
 (.ret))
 (.skip)))
 (.seq (.seq (.region [vF 21 1 1,
 vL 22 1 21,
 vP 23 (.len (.s 22)),
 vP 24 (.mv (vi 0))])
 (.block 0 (.loop k155l0)))
 (.seq (.draw [vD (vF 34 1 0) 0,
 vD (vL 35 1 34) 1,
 vD (vP 36 (.len (.s 35))) 3,
 vD (vP 7 (.mv (vi 1))) 0,
 vD (vM 8 36) 15])
 (.seq (.seq (.region [vF 37 1 1,
 vL 38 1 37,
 vP 39 (.len (.s 38)),
 vP 40 (.mv (vi 0))])
 (.block 2 (.loop k155l1)))
 (.seq (.seq (.region [vM 54 7,
 vP 55 (vc .gtr 54 3000),
 vM 56 55,
 vU 56 57 (.mv (.s 8)),
 vU 56 58 (vc .gtr 57 400),
 vP 59 (.pick (.s 56) (.c (.bool true)) (.s 58)),
 vM 60 59,
 vU 60 61 (.ld true 2 (.s 1)),
 ⟨some (60, false), some 62, .inr (.fn 156 [(.s 61)])⟩,
 vU 60 63 (.len (.s 62)),
 vU 60 64 (vc .gtr 63 64),
 vP 65 (.pick (.s 60) (.c (.bool true)) (.s 64))])
 (.cond (.s 65) (.seq (.region [vP 2 (.mv (vi 2))])
 (.ret))
 (.skip)))
 (.seq (.region [vP 2 (.mv (vi 0))])
 (.ret))))))))
def k156l0 : Cd :=
  .seq (.region [vP 22 (vb .lss 21 20)])
 (.seq (.cond (.s 22) (.skip)
 (.exit 2))
 (.seq (.block 3 (.seq (.region [vI 23 1 19 21,
 vL 24 1 23,
 vM 7 24])
 (.region [vM 25 7,
 vN 26 138 [(.s 3), (.s 25)]])))
 (.region [vP 27 (vc .add 21 1),
 vM 21 27])))
def k156l1 : Cd :=
  .seq (.region [vP 15 (vb .lss 14 13)])
 (.seq (.cond (.s 15) (.skip)
 (.exit 0))
 (.seq (.block 1 (.seq (.region [vI 16 2 12 14,
 vP 17 (.ld true 2 (.s 16)),
 vP 5 (.alloc 235 [(.int .i64 0), (.slice none 0 0)]),
 ⟨none, none, .inl (.st 2 (.s 5) (.s 17))⟩])
 (.seq (.region [vF 18 5 1,
 vL 19 1 18,
 vP 20 (.len (.s 19)),
 vP 21 (.mv (vi 0))])
 (.block 2 (.loop k156l0)))))
 (.region [vP 28 (vc .add 14 1),
 vM 14 28])))
def k156 : Cd :=
  .seq (.region [vP 1 (.box 128 2 (.s 0)),
 vP 2 (.mv (.c (.slice none 0 0)))])
 (.seq (.region [vP 3 (.alloc 192 [(.int .u64 0), (.int .u64 0), (.int .u64 0), (.int .u64 0), (.int .u64 0), (.int .u64 0), (.int .u64 0), (.int .u64 0), (.int .u64 0), (.int .u64 0), (.int .u64 0), (.int .u64 0), (.int .u64 0), (.int .u64 0), (.int .u64 0), (.int .u64 0), (.int .u64 0), (.int .u64 0), (.int .u64 0), (.int .u64 0), (.int .u64 0), (.int .u64 0), (.int .u64 0), (.int .u64 0), (.int .u64 0), (.int .u64 0), (.int .u64 0), (.int .u64 0), (.int .u64 0), (.int .u64 0), (.int .u64 0), (.int .u64 0), (.int .u64 0)])])
 (.seq (.region [vF 8 1 0,
 vL 9 1 8,
 vN 10 138 [(.s 3), (.s 9)]])
 (.seq (.seq (.region [vF 11 1 1,
 vL 12 1 11,
 vP 13 (.len (.s 12)),
 vP 14 (.mv (vi 0))])
 (.block 0 (.loop k156l1)))
 (.seq (.region [vN 29 139 [(.s 3)],
 vM 2 29])
 (.ret)))))
def k157 : Cd :=
  .seq (.region [vP 3 (.mv (.c (.bool false)))])
 (.seq (.region [vL 4 1 1,
 vM 5 0,
 vN 6 68 [(.s 4), (.s 5)],
 vP 7 (.not (.s 6)),
 vM 3 7])
 (.ret))
def k158 : Cd :=
  .seq (.region [vP 4 (.mv (.c (.bool false)))])
 (.seq (.region [vM 5 0,
 vM 6 1,
 vN 7 184 [(.s 5), (.s 6)],
 vP 8 (vc .geq 7 0),
 vM 4 8])
 (.ret))
def k159 : Cd :=
  .seq (.region [vP 2 (.box 130 5 (.s 0)),
 vP 3 (.mv (.c (.bool false)))])
 (.seq (.region [vL 4 1 1,
 vF 5 2 2,
 vL 6 1 5,
 ⟨none, some 7, .inr (.val false (.s 4) [(.s 6)])⟩,
 vM 3 7])
 (.ret))
def k160 : Cd :=
  .seq (.region [vP 1 (.box 128 2 (.s 0)),
 vP 2 (.mv (.c (.slice none 0 0))),
 vP 3 (.mv (vi 0))])
 (.seq (.seq (.region [vP 6 (.ld true 2 (.s 1)),
 vN 7 155 [(.s 6)],
 vM 4 7])
 (.seq (.region [vM 8 4,
 vP 9 (vc .neq 8 0)])
 (.cond (.s 9) (.seq (.region [vM 10 4,
 vP 2 (.mv (.c (.slice none 0 0))),
 vM 3 10])
 (.ret))
 (.skip))))
 (.seq (.region [vP 5 (.alloc 86 [(.slice none 0 0)])])
 (.seq (.region [vP 11 (.ld true 2 (.s 1)),
 vP 12 (.mkf (.func 185) [] [(.s 5)]),
 vN 13 177 [(.s 11), (.s 12)]])
 (.seq (.region [vL 14 1 5,
 vM 2 14,
 vP 3 (.mv (vi 0))])
 (.ret)))))
def k161 : Cd :=
  .seq (.region [vP 4 (.mv (.c (.slice none 0 0)))])
 (.seq (.region [vM 5 0,
 vM 6 1,
 vN 7 166 [(.s 5), (.s 6), (.f 186)],
 vM 4 7])
 (.ret))
def k162l0 : Cd :=
  .seq (.region [vP 24 (vb .lss 23 22)])
 (.seq (.cond (.s 24) (.skip)
 (.exit 0))
 (.seq (.block 1 (.seq (.region [vM 25 23,
 vI 26 2 21 23,
 vP 27 (.ld true 2 (.s 26)),
 vP 8 (.alloc 235 [(.int .i64 0), (.slice none 0 0)]),
 vM 7 25,
 ⟨none, none, .inl (.st 2 (.s 8) (.s 27))⟩])
 (.seq (.draw [vD (vM 28 1) 0,
 vD (vM 29 7) 0,
 vD (vI 30 1 28 29) 3,
 vD (vL 31 1 30) 7,
 vD (vF 32 8 1) 0,
 vD (vL 33 1 32) 16,
 vD (vP 34 (.len (.s 33))) 48,
 vD (vP 35 (vc .sub 34 1)) 112,
 vD (vN 36 187 [(.s 31), (vi 0), (.s 35)]) 255,
 vD (vP 37 (.not (.s 36))) 511])
 (.cond (.s 37) (.seq (.region [vP 4 (.mv (.c (.slice none 0 0))),
 vP 5 (.mv (vi 51))])
 (.ret))
 (.skip)))))
 (.region [vP 38 (vc .add 23 1),
 vM 23 38])))
def k162 : Cd :=
  .seq (.region [vP 2 (.box 128 2 (.s 0)),
 vP 4 (.mv (.c (.slice none 0 0))),
 vP 5 (.mv (vi 0))])
 (.seq (.seq (.region [vP 9 (.ld true 2 (.s 2)),
 vN 10 155 [(.s 9)],
 vM 6 10])
 (.seq (.region [vM 11 6,
 vP 12 (vc .neq 11 0)])
 (.cond (.s 12) (.seq (.region [vM 13 6,
 vP 4 (.mv (.c (.slice none 0 0))),
 vM 5 13])
 (.ret))
 (.skip))))
 (.seq (.seq (.region [vM 14 1,
 vP 15 (.len (.s 14)),
 vF 16 2 1,
 vL 17 1 16,
 vP 18 (.len (.s 17)),
 vP 19 (vb .neq 15 18)])
 (.cond (.s 19) (.seq (.region [vP 4 (.mv (.c (.slice none 0 0))),
 vP 5 (.mv (vi 51))])
 (.ret))
 (.skip)))
 (.seq (.seq (.region [vF 20 2 1,
 vL 21 1 20,
 vP 22 (.len (.s 21)),
 vP 23 (.mv (vi 0))])
 (.block 0 (.loop k162l0)))
 (.seq (.region [vP 39 (.ld true 2 (.s 2)),
 vM 40 1,
 vN 41 188 [(.s 39), (.s 40)],
 vM 4 41,
 vP 5 (.mv (vi 0))])
 (.ret)))))
def k163 : Cd :=
  .seq (.region [vP 2 (.alloc 88 [(.slice none 0 0), (.slice none 0 0)]),
 vP 3 (.mv (vi 0))])
 (.seq (.seq (.region [vM 7 0,
 vN 8 38 [(.s 7)],
 vM 4 8])
 (.seq (.region [vM 9 4,
 vP 10 (vc .neq 9 0)])
 (.cond (.s 10) (.seq (.region [vP 11 (.bld [(.slice none 0 0), (.slice none 0 0)] []),
 vM 12 4,
 ⟨none, none, .inl (.st 2 (.s 2) (.s 11))⟩,
 vM 3 12])
 (.ret))
 (.skip))))
 (.seq (.region [vM 14 0,
 vN 15 39 [(.s 14), (.f 40)],
 vN 16 52 [(.s 15)],
 vM 13 16,
 vP 17 (.ex (.s 13) 0),
 vP 18 (.ex (.s 13) 1),
 vP 5 (.alloc 90 [(.slice none 0 0), (.slice none 0 0)]),
 ⟨none, none, .inl (.st 2 (.s 5) (.s 17))⟩,
 vM 6 18])
 (.seq (.seq (.region [vM 19 6,
 vP 20 (.not (.s 19))])
 (.cond (.s 20) (.seq (.region [vP 21 (.bld [(.slice none 0 0), (.slice none 0 0)] []),
 ⟨none, none, .inl (.st 2 (.s 2) (.s 21))⟩,
 vP 3 (.mv (vi 25))])
 (.ret))
 (.skip)))
 (.seq (.region [vF 22 5 0,
 vP 23 (.ld true 2 (.s 22)),
 ⟨none, none, .inl (.st 2 (.s 2) (.s 23))⟩,
 vP 3 (.mv (vi 0))])
 (.ret)))))
def k164 : Cd :=
  .region [vP 4 (.ld true 6 (.s 1)),
 vL 5 1 2,
 vF 6 1 0,
 vF 7 6 3,
 vL 8 1 7,
 vP 9 (.bld [(.int .i64 0), (.int .i64 0), (.int .i64 0), (.bool false)] [(2, 1, (.s 8))]),
 vP 10 (.bs 213 4 1 [(.int .i64 0), (.int .i64 0), (.int .i64 0), (.bool false)] [(0, (.s 9))]),
 vM 11 0,
 vN 12 165 [(.s 4), (.s 5), (.s 10), (.s 11)]]
end Go.Proofs.YtgbkdjlekfjkfaaGreatDoor
