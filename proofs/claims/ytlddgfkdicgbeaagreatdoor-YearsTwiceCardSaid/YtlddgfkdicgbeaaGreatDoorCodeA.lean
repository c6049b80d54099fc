/- The small code of the functions of this program, as its own reader reads them: part A. -/
import Derived.Test.YtlddgfkdicgbeaaGreatDoorEmR
namespace Go.Proofs.YtlddgfkdicgbeaaGreatDoor
open Go Go.Em
set_option maxRecDepth 100000
@[simp] abbrev vM (d x : Nat) : G := ⟨none, some d, .inl (.mv (.s x))⟩
@[simp] abbrev vL (d n x : Nat) : G := ⟨none, some d, .inl (.ld false n (.s x))⟩
@[simp] abbrev vF (d x o : Nat) : G := ⟨none, some d, .inl (.fa (.s x) o)⟩
@[simp] abbrev vI (d n x i : Nat) : G := ⟨none, some d, .inl (.ias n (.s x) (.s i))⟩
@[simp] abbrev vi (n : Int) : X := .c (.int .i64 n)
@[simp] abbrev vb (o : BinOp) (a b : Nat) : M := .bin o (.s a) (.s b)
@[simp] abbrev vc (o : BinOp) (a : Nat) (n : Int) : M := .bin o (.s a) (.c (.int .i64 n))
@[simp] abbrev vP (d : Nat) (m : M) : G := ⟨none, some d, .inl m⟩
@[simp] abbrev vT (g d : Nat) (m : M) : G := ⟨some (g, true), some d, .inl m⟩
@[simp] abbrev vU (g d : Nat) (m : M) : G := ⟨some (g, false), some d, .inl m⟩
@[simp] abbrev vN (d : Nat) (f : FuncId) (l : List X) : G := ⟨none, some d, .inr (.fn f l)⟩
@[simp] abbrev vD (g : G) (n : Nat) : DG := ⟨g, some [], [], n, false⟩
def k6l0 : Cd :=
  .seq (.seq (.region [vM 53 13,
 vM 54 8,
 vP 55 (vb .leq 53 54)])
 (.cond (.s 55) (.skip)
 (.exit 0)))
 (.seq (.block 1 (.region [vM 58 12,
 vM 59 58,
 vU 59 60 (.mv (.s 0)),
 vU 59 61 (.mv (.s 2)),
 ⟨some (59, false), some 62, .inr (.fn 26 [(.s 61), (vi 2000001)])⟩,
 vU 59 63 (vc .sub 62 1000000),
 vU 59 64 (.mv (.s 13)),
 vU 59 65 (vb .sub 63 64),
 ⟨some (59, false), some 66, .inr (.fn 21 [(.s 60), (.s 65)])⟩,
 vP 67 (.pick (.s 59) (.c (.bool true)) (.s 66)),
 vM 12 67]))
 (.region [vM 56 13,
 vP 57 (vc .add 56 1),
 vM 13 57]))
def k6 : Cd :=
  .seq (.region [vP 4 (.box 36 4 (.s 1)),
 vP 6 (.mv (.c (.bool false)))])
 (.seq (.region [vM 14 0,
 vN 15 25 [(.s 14)],
 vM 0 15])
 (.seq (.region [vP 16 (.iaa 4 1 (.s 4) (vi 0)),
 vL 17 1 16,
 vN 18 26 [(.s 17), (vi 2001)],
 vP 19 (vc .sub 18 1000),
 vM 7 19])
 (.seq (.region [vM 20 7,
 vP 21 (.iaa 4 1 (.s 4) (vi 1)),
 vL 22 1 21,
 vN 23 26 [(.s 22), (vi 50)],
 vP 24 (vb .add 20 23),
 vM 8 24])
 (.seq (.region [vP 25 (.iaa 4 1 (.s 4) (vi 2)),
 vL 26 1 25,
 vN 27 26 [(.s 26), (vi 2001)],
 vP 28 (vc .sub 27 1000),
 vM 9 28])
 (.seq (.region [vM 29 9,
 vP 30 (.iaa 4 1 (.s 4) (vi 3)),
 vL 31 1 30,
 vN 32 26 [(.s 31), (vi 50)],
 vP 33 (vb .add 29 32),
 vM 10 33])
 (.seq (.region [vM 34 0,
 vM 35 7,
 vM 36 8,
 vN 37 23 [(.s 34), (.s 35), (.s 36)],
 vM 11 37])
 (.seq (.seq (.region [vM 38 11,
 vM 39 9,
 vM 40 10,
 vN 41 23 [(.s 38), (.s 39), (.s 40)],
 vM 42 0,
 vM 43 7,
 vM 44 9,
 vP 45 (vb .add 43 44),
 vM 46 8,
 vM 47 10,
 vP 48 (vb .add 46 47),
 vN 49 23 [(.s 42), (.s 45), (.s 48)],
 vN 50 9 [(.s 41), (.s 49)],
 vP 51 (.not (.s 50))])
 (.cond (.s 51) (.seq (.region [vP 6 (.mv (.c (.bool false)))])
 (.ret))
 (.skip)))
 (.seq (.region [vP 12 (.mv (.c (.bool false)))])
 (.seq (.seq (.region [vM 52 7,
 vM 13 52])
 (.block 0 (.loop k6l0)))
 (.seq (.region [vM 68 12,
 vM 69 11,
 vM 70 2,
 vN 71 26 [(.s 70), (vi 2000001)],
 vP 72 (vc .sub 71 1000000),
 vN 73 21 [(.s 69), (.s 72)],
 vP 74 (.eq false .bool (.s 68) (.s 73)),
 vM 75 74,
 ⟨some (75, true), some 76, .inr (.fn 18 [])⟩,
 vP 77 (.pick (.s 75) (.s 76) (.c (.bool false))),
 vM 6 77])
 (.ret)))))))))))
def k9l0 : Cd :=
  .seq (.region [vP 14 (vb .lss 13 12)])
 (.seq (.cond (.s 14) (.skip)
 (.exit 0))
 (.seq (.block 1 (.seq (.region [vM 15 13,
 vM 5 15])
 (.seq (.draw [vD (vM 16 0) 0,
 vD (vM 17 5) 0,
 vD (vI 18 2 16 17) 3,
 vD (vP 19 (.ld true 2 (.s 18))) 7,
 vD (vM 20 1) 0,
 vD (vM 21 5) 0,
 vD (vI 22 2 20 21) 48,
 vD (vP 23 (.ld true 2 (.s 22))) 112,
 vD (vP 24 (.eq true (.cells [.int, .int]) (.s 19) (.s 23))) 255])
 (.cond (.s 24) (.seq (.region [vP 4 (.mv (.c (.bool false)))])
 (.ret))
 (.skip)))))
 (.region [vP 25 (vc .add 13 1),
 vM 13 25])))
def k9 : Cd :=
  .seq (.region [vP 4 (.mv (.c (.bool false)))])
 (.seq (.seq (.region [vM 6 0,
 vP 7 (.len (.s 6)),
 vM 8 1,
 vP 9 (.len (.s 8)),
 vP 10 (vb .neq 7 9)])
 (.cond (.s 10) (.seq (.region [vP 4 (.mv (.c (.bool false)))])
 (.ret))
 (.skip)))
 (.seq (.seq (.region [vM 11 0,
 vP 12 (.len (.s 11)),
 vP 13 (.mv (vi 0))])
 (.block 0 (.loop k9l0)))
 (.seq (.region [vP 4 (.mv (.c (.bool true)))])
 (.ret))))
def k10 : Cd :=
  .seq (.region [vP 2 (.mv (.c (.slice none 0 0)))])
 (.seq (.region [vM 3 0,
 vN 4 28 [(.s 3), (.c (.slice none 0 0)), (.f 29)],
 vM 2 4])
 (.ret))
def k16 : Cd :=
  .seq (.region [vP 4 (.mv (.c (.slice none 0 0)))])
 (.seq (.region [vM 5 0,
 vM 6 1,
 vN 7 28 [(.s 5), (.s 6), (.f 34)],
 vM 4 7])
 (.ret))
def k18 : Cd :=
  .seq (.region [vP 0 (.mv (.c (.bool false)))])
 (.seq (.region [vP 16 (.bld [(.int .i64 0), (.int .i64 0), (.int .i64 0), (.int .i64 0), (.int .i64 0)] [(0, 1, (vi 0)), (1, 1, (vi 1)), (2, 1, (vi 5)), (3, 1, (vi 7)), (4, 1, (vi 1))]),
 vP 17 (.bld [(.int .i64 0), (.int .i64 0), (.int .i64 0), (.int .i64 0), (.int .i64 0)] [(0, 1, (vi 1)), (1, 1, (vi 2)), (2, 1, (vi 10)), (3, 1, (vi 10)), (4, 1, (vi 1))]),
 vP 18 (.bst 46 5 2 [(.int .i64 0), (.int .i64 0), (.int .i64 0), (.int .i64 0), (.int .i64 0)] [(0, (.s 16)), (1, (.s 17))]),
 vP 19 (.bld [(.slice none 0 0), (.slice none 0 0)] [(0, 1, (.s 18))]),
 vP 1 (.alloc 50 [(.slice none 0 0), (.slice none 0 0)]),
 ⟨none, none, .inl (.st 2 (.s 1) (.s 19))⟩])
 (.seq (.region [vP 20 (.bld [(.int .i64 0), (.int .i64 0), (.int .i64 0), (.int .i64 0), (.int .i64 0)] [(0, 1, (vi 1)), (2, 1, (vi 2)), (3, 1, (.c (.int .i64 (-1))))]),
 vP 2 (.alloc 52 [(.int .i64 0), (.int .i64 0), (.int .i64 0), (.int .i64 0), (.int .i64 0)]),
 ⟨none, none, .inl (.st 5 (.s 2) (.s 20))⟩])
 (.seq (.region [vP 21 (.bld [(.int .i64 0), (.int .i64 0), (.int .i64 0), (.int .i64 0), (.int .i64 0)] [(0, 1, (vi 2)), (2, 1, (vi 1)), (3, 1, (vi 9)), (4, 1, (vi 9))]),
 vP 3 (.alloc 52 [(.int .i64 0), (.int .i64 0), (.int .i64 0), (.int .i64 0), (.int .i64 0)]),
 ⟨none, none, .inl (.st 5 (.s 3) (.s 21))⟩])
 (.seq (.region [vP 23 (.ld true 2 (.s 1)),
 vP 24 (.ld true 5 (.s 2)),
 vN 25 35 [(.s 23), (.s 24), (vi 0)],
 vM 22 25,
 vP 26 (.ex (.s 22) 0),
 vP 27 (.ex (.s 22) 1),
 vM 4 26,
 vM 5 27])
 (.seq (.region [vP 29 (.ld true 2 (.s 1)),
 vP 30 (.ld true 5 (.s 2)),
 vP 31 (.ld true 5 (.s 3)),
 vN 32 36 [(.s 29), (.s 30), (.s 31)],
 vM 28 32,
 vP 33 (.ex (.s 28) 0),
 vP 34 (.ex (.s 28) 1),
 vP 6 (.alloc 56 [(.bool false), (.bool false), (.bool false)]),
 ⟨none, none, .inl (.st 3 (.s 6) (.s 33))⟩,
 vM 7 34])
 (.seq (.region [vP 36 (.ld true 2 (.s 1)),
 vP 37 (.ld true 5 (.s 2)),
 vP 38 (.ld true 5 (.s 3)),
 vP 39 (.bst 52 5 2 [(.int .i64 0), (.int .i64 0), (.int .i64 0), (.int .i64 0), (.int .i64 0)] [(0, (.s 37)), (1, (.s 38))]),
 vP 40 (.bld [(.int .i64 0), (.int .i64 0)] [(0, 1, (vi 14)), (1, 1, (vi 15))]),
 vN 41 37 [(.s 36), (.s 39), (vi 0), (.s 40)],
 vM 35 41,
 vP 42 (.ex (.s 35) 0),
 vP 43 (.ex (.s 35) 1),
 vP 44 (.ex (.s 35) 2),
 vM 8 42,
 vM 9 43,
 vM 10 44])
 (.seq (.region [vP 45 (.bld [(.int .i64 0), (.int .i64 0)] [(0, 1, (vi 1)), (1, 1, (vi 2))]),
 vP 46 (.bld [(.int .i64 0), (.int .i64 0)] [(0, 1, (vi 6)), (1, 1, (vi 6))]),
 vP 47 (.bst 40 2 2 [(.int .i64 0), (.int .i64 0)] [(0, (.s 45)), (1, (.s 46))]),
 vN 48 23 [(.s 47), (.c (.int .i64 (-1))), (vi 2)],
 vM 11 48])
 (.seq (.region [vP 50 (.bst 3 1 3 [(.int .i64 0)] [(0, (vi 3)), (1, (vi 4)), (2, (vi 9))]),
 vN 51 38 [(.s 50), (vi 2)],
 vM 49 51,
 vP 52 (.ex (.s 49) 0),
 vP 53 (.ex (.s 49) 1),
 vP 54 (.ex (.s 49) 2),
 vP 13 (.alloc 63 [(.int .i64 0), (.int .i64 0)]),
 vM 12 52,
 ⟨none, none, .inl (.st 2 (.s 13) (.s 53))⟩,
 vM 14 54])
 (.seq (.region [vM 55 5,
 vP 56 (vc .eql 55 0),
 vM 57 56,
 vT 57 58 (.mv (.s 7)),
 vT 57 59 (vc .eql 58 0),
 vP 60 (.pick (.s 57) (.s 59) (.c (.bool false))),
 vM 61 60,
 vT 61 62 (.mv (.s 10)),
 vT 61 63 (vc .eql 62 0),
 vP 64 (.pick (.s 61) (.s 63) (.c (.bool false))),
 vM 65 64,
 vT 65 66 (.mv (.s 14)),
 vT 65 67 (vc .eql 66 0),
 vP 68 (.pick (.s 65) (.s 67) (.c (.bool false))),
 vM 15 68])
 (.seq (.region [vM 69 15,
 vM 70 69,
 vT 70 71 (.mv (.s 4)),
 vT 70 72 (.bld [(.int .i64 0), (.int .i64 0)] [(0, 1, (vi 14)), (1, 1, (vi 17))]),
 vT 70 73 (.bst 40 2 1 [(.int .i64 0), (.int .i64 0)] [(0, (.s 72))]),
 ⟨some (70, true), some 74, .inr (.fn 9 [(.s 71), (.s 73)])⟩,
 vP 75 (.pick (.s 70) (.s 74) (.c (.bool false))),
 vM 76 75,
 vT 76 77 (.fa (.s 6) 0),
 vT 76 78 (.ld false 1 (.s 77)),
 vP 79 (.pick (.s 76) (.s 78) (.c (.bool false))),
 vM 80 79,
 vT 80 81 (.fa (.s 6) 1),
 vT 80 82 (.ld false 1 (.s 81)),
 vP 83 (.pick (.s 80) (.s 82) (.c (.bool false))),
 vM 84 83,
 vT 84 85 (.fa (.s 6) 2),
 vT 84 86 (.ld false 1 (.s 85)),
 vT 84 87 (.not (.s 86)),
 vP 88 (.pick (.s 84) (.s 87) (.c (.bool false))),
 vM 89 88,
 vT 89 90 (.mv (.s 8)),
 vT 89 91 (vc .eql 90 0),
 vP 92 (.pick (.s 89) (.s 91) (.c (.bool false))),
 vM 93 92,
 vT 93 94 (.mv (.s 9)),
 vT 93 95 (vc .eql 94 2),
 vP 96 (.pick (.s 93) (.s 95) (.c (.bool false))),
 vM 97 96,
 vT 97 98 (.mv (.s 11)),
 vT 97 99 (.bld [(.int .i64 0), (.int .i64 0)] [(0, 1, (vi 0)), (1, 1, (vi 8))]),
 vT 97 100 (.bst 40 2 1 [(.int .i64 0), (.int .i64 0)] [(0, (.s 99))]),
 ⟨some (97, true), some 101, .inr (.fn 9 [(.s 98), (.s 100)])⟩,
 vP 102 (.pick (.s 97) (.s 101) (.c (.bool false))),
 vM 103 102,
 vT 103 104 (.mv (.s 12)),
 vT 103 105 (vc .eql 104 1),
 vP 106 (.pick (.s 103) (.s 105) (.c (.bool false))),
 vM 107 106,
 vT 107 108 (.ld true 2 (.s 13)),
 vT 107 109 (.bld [(.int .i64 0), (.int .i64 0)] [(0, 1, (vi 13)), (1, 1, (vi 2))]),
 vT 107 110 (.eq false (.cells [.int, .int]) (.s 108) (.s 109)),
 vP 111 (.pick (.s 107) (.s 110) (.c (.bool false))),
 vM 0 111])
 (.ret)))))))))))
def k21 : Cd :=
  .seq (.region [vP 3 (.box 3 1 (.s 1)),
 vP 4 (.mv (.c (.bool false)))])
 (.seq (.region [vM 5 0,
 vN 6 40 [(.s 5)],
 vP 7 (.mkf (.func 41) [] [(.s 3)]),
 vN 8 39 [(.s 6), (.s 7)],
 vM 4 8])
 (.ret))
def k23l0 : Cd :=
  .seq (.region [vP 26 (vb .lss 25 24)])
 (.seq (.cond (.s 26) (.skip)
 (.exit 0))
 (.seq (.block 1 (.seq (.region [vM 27 25,
 vI 28 2 23 25,
 vP 29 (.ld true 2 (.s 28)),
 vP 9 (.alloc 40 [(.int .i64 0), (.int .i64 0)]),
 vM 8 27,
 ⟨none, none, .inl (.st 2 (.s 9) (.s 29))⟩])
 (.seq (.seq (.region [vF 30 9 0,
 vL 31 1 30,
 vP 32 (.bin .neq (.s 31) (.c (.int .i64 (-1000000000))))])
 (.cond (.s 32) (.region [vM 33 7,
 vM 34 8,
 vI 35 2 33 34,
 vF 36 35 0,
 vL 37 1 36,
 vM 38 1,
 vP 39 (vb .add 37 38),
 vI 40 2 33 34,
 vF 41 40 0,
 ⟨none, none, .inl (.st 1 (.s 41) (.s 39))⟩])
 (.skip)))
 (.seq (.region [vF 42 9 1,
 vL 43 1 42,
 vP 44 (vc .neq 43 1000000000)])
 (.cond (.s 44) (.region [vM 45 7,
 vM 46 8,
 vI 47 2 45 46,
 vF 48 47 1,
 vL 49 1 48,
 vM 50 2,
 vP 51 (vb .add 49 50),
 vI 52 2 45 46,
 vF 53 52 1,
 ⟨none, none, .inl (.st 1 (.s 53) (.s 51))⟩])
 (.skip))))))
 (.region [vP 54 (vc .add 25 1),
 vM 25 54])))
def k23 : Cd :=
  .seq (.region [vP 6 (.mv (.c (.slice none 0 0)))])
 (.seq (.seq (.region [vM 10 1,
 vP 11 (.bin .lss (.s 10) (.c (.int .i64 (-1000000000)))),
 vM 12 11,
 vU 12 13 (.mv (.s 1)),
 vU 12 14 (.mv (.s 2)),
 vU 12 15 (vb .gtr 13 14),
 vP 16 (.pick (.s 12) (.c (.bool true)) (.s 15)),
 vM 17 16,
 vU 17 18 (.mv (.s 2)),
 vU 17 19 (vc .gtr 18 1000000000),
 vP 20 (.pick (.s 17) (.c (.bool true)) (.s 19))])
 (.cond (.s 20) (.seq (.region [vP 6 (.mv (.c (.slice none 0 0)))])
 (.ret))
 (.skip)))
 (.seq (.region [vM 21 0,
 vN 22 10 [(.s 21)],
 vM 7 22])
 (.seq (.seq (.region [vM 23 7,
 vP 24 (.len (.s 23)),
 vP 25 (.mv (vi 0))])
 (.block 0 (.loop k23l0)))
 (.seq (.region [vM 55 7,
 vN 56 10 [(.s 55)],
 vM 6 56])
 (.ret)))))
def k25l0 : Cd :=
  .seq (.seq (.region [vM 5 4,
 vM 6 0,
 vP 7 (.len (.s 6)),
 vP 8 (vb .lss 5 7),
 vM 9 8,
 vT 9 10 (.mv (.s 4)),
 vT 9 11 (vc .lss 10 60),
 vP 12 (.pick (.s 9) (.s 11) (.c (.bool false)))])
 (.cond (.s 12) (.skip)
 (.exit 0)))
 (.seq (.block 1 (.draw [vD (vM 15 3) 0,
 vD (vM 16 0) 0,
 vD (vM 17 4) 0,
 vD (vI 18 2 16 17) 6,
 vD (vF 19 18 0) 14,
 vD (vL 20 1 19) 30,
 vD (vN 21 26 [(.s 20), (vi 2000001)]) 62,
 vD (vP 22 (vc .sub 21 1000000)) 126,
 vD (vM 23 0) 0,
 vD (vM 24 4) 0,
 vD (vI 25 2 23 24) 768,
 vD (vF 26 25 1) 1792,
 vD (vL 27 1 26) 3840,
 vD (vN 28 26 [(.s 27), (vi 2000001)]) 8062,
 vD (vP 29 (vc .sub 28 1000000)) 16254,
 vD (vP 30 (.bld [(.int .i64 0), (.int .i64 0)] [(0, 1, (.s 22)), (1, 1, (.s 29))])) 32766,
 ⟨vP 31 (.bs 40 2 1 [(.int .i64 0), (.int .i64 0)] [(0, (.s 30))]), (some [.fr 31]), [], 65534, false⟩,
 ⟨vP 32 (.app 40 2 16 (.s 15) (.s 31)), (some [.fr 32, .at 3]), [], 131071, false⟩,
 vD (vM 3 32) 262143]))
 (.region [vM 13 4,
 vP 14 (vc .add 13 1),
 vM 4 14]))
def k25 : Cd :=
  .seq (.region [vP 2 (.mv (.c (.slice none 0 0)))])
 (.seq (.region [vP 3 (.mv (.c (.slice none 0 0)))])
 (.seq (.seq (.region [vP 4 (.mv (vi 0))])
 (.block 0 (.loop k25l0)))
 (.seq (.region [vM 33 3,
 vM 2 33])
 (.ret))))
def k26 : Cd :=
  .seq (.region [vP 4 (.mv (vi 0))])
 (.seq (.region [vM 5 0,
 vM 6 1,
 vP 7 (vb .rem 5 6),
 vM 8 1,
 vP 9 (vb .add 7 8),
 vM 10 1,
 vP 11 (vb .rem 9 10),
 vM 4 11])
 (.ret))
def k28l0 : Cd :=
  .region [vP 11 (.alloc 74 [(.int .i64 0), (.int .i64 0), (.int .i64 0)]),
 ⟨none, none, .inl (.st 3 (.s 11) (.s 15))⟩]
def k28l1 : Cd :=
  .block 1 (.seq (.seq (.region [vL 16 1 8,
 vF 17 11 0,
 vL 18 1 17,
 vP 19 (vb .lss 16 18),
 vM 20 19,
 vT 20 21 (.ld false 1 (.s 5)),
 vT 20 22 (.ld false 1 (.s 9)),
 vT 20 23 (vc .gtr 22 0),
 vT 20 24 (.ld false 1 (.s 10)),
 vT 20 25 (vc .gtr 24 0),
 ⟨some (20, true), some 26, .inr (.val true (.s 21) [(.s 23), (.s 25)])⟩,
 vP 27 (.pick (.s 20) (.s 26) (.c (.bool false)))])
 (.cond (.s 27) (.region [vL 28 1 7,
 vL 29 1 8,
 vF 30 11 0,
 vL 31 1 30,
 vP 32 (vc .sub 31 1),
 vP 33 (.bld [(.int .i64 0), (.int .i64 0)] [(0, 1, (.s 29)), (1, 1, (.s 32))]),
 vN 34 44 [(.s 28), (.s 33)],
 ⟨none, none, .inl (.st 1 (.s 7) (.s 34))⟩])
 (.skip)))
 (.draw [vD (vF 35 11 0) 0,
 vD (vL 36 1 35) 1,
 ⟨vL 37 1 9, some [], [.at 8], 0, false⟩,
 vD (vF 38 11 1) 0,
 ⟨vL 39 1 38, some [], [.at 8], 8, false⟩,
 vD (vP 40 (vb .add 37 39)) 28,
 ⟨vL 41 1 10, some [], [.at 8, .at 9], 0, false⟩,
 vD (vF 42 11 2) 0,
 ⟨vL 43 1 42, some [], [.at 8, .at 9], 128, false⟩,
 vD (vP 44 (vb .add 41 43)) 448,
 ⟨⟨none, none, .inl (.st 1 (.s 8) (.s 36))⟩, (some [.at 8]), [], 3, false⟩,
 ⟨⟨none, none, .inl (.st 1 (.s 9) (.s 40))⟩, (some [.at 9]), [], 1087, false⟩,
 ⟨⟨none, none, .inl (.st 1 (.s 10) (.s 44))⟩, (some [.at 10]), [], 4095, false⟩]))
def k28 : Cd :=
  .seq (.region [vP 5 (.box 42 1 (.s 2)),
 vP 6 (.mv (.c (.slice none 0 0)))])
 (.seq (.region [vP 7 (.alloc 22 [(.slice none 0 0)])])
 (.seq (.region [vP 8 (.alloc 3 [(.int .i64 0)]),
 vP 9 (.alloc 3 [(.int .i64 0)]),
 vP 10 (.alloc 3 [(.int .i64 0)]),
 ⟨none, none, .inl (.st 1 (.s 8) (.c (.int .i64 (-1000000000))))⟩,
 ⟨none, none, .inl (.st 1 (.s 9) (vi 0))⟩,
 ⟨none, none, .inl (.st 1 (.s 10) (vi 0))⟩])
 (.seq (.seq (.region [vM 12 0,
 vM 13 1,
 vN 14 43 [(.s 12), (.s 13)]])
 (.block 0 (.rangeF (.s 14) [15] k28l0 k28l1)))
 (.seq (.region [vL 45 1 7,
 vM 6 45])
 (.ret)))))
def k29 : Cd :=
  .seq (.region [vP 4 (.mv (.c (.bool false)))])
 (.seq (.region [vM 5 0,
 vM 4 5])
 (.ret))
def k34 : Cd :=
  .seq (.region [vP 4 (.mv (.c (.bool false)))])
 (.seq (.region [vM 5 0,
 vM 6 5,
 vT 6 7 (.mv (.s 1)),
 vT 6 8 (.not (.s 7)),
 vP 9 (.pick (.s 6) (.s 8) (.c (.bool false))),
 vM 4 9])
 (.ret))
def k35 : Cd :=
  .seq (.region [vP 3 (.box 50 2 (.s 0)),
 vP 4 (.box 52 5 (.s 1)),
 vP 6 (.mv (.c (.slice none 0 0))),
 vP 7 (.mv (vi 0))])
 (.seq (.region [vP 11 (.ld true 2 (.s 3)),
 vP 12 (.ld true 5 (.s 4)),
 vM 13 2,
 vN 14 45 [(.s 11), (.s 12), (.s 13)],
 vM 10 14,
 vP 15 (.ex (.s 10) 0),
 vP 16 (.ex (.s 10) 1),
 vM 8 15,
 vM 9 16])
 (.seq (.region [vM 17 8,
 vF 18 4 3,
 vL 19 1 18,
 vF 20 4 4,
 vL 21 1 20,
 vN 22 23 [(.s 17), (.s 19), (.s 21)],
 vM 23 9,
 vM 6 22,
 vM 7 23])
 (.ret)))
def k36 : Cd :=
  .seq (.region [vP 3 (.box 50 2 (.s 0)),
 vP 4 (.box 52 5 (.s 1)),
 vP 5 (.box 52 5 (.s 2)),
 vP 6 (.alloc 56 [(.bool false), (.bool false), (.bool false)]),
 vP 7 (.mv (vi 0))])
 (.seq (.region [vP 11 (.ld true 2 (.s 3)),
 vP 12 (.ld true 5 (.s 4)),
 vP 13 (.ld true 5 (.s 5)),
 vN 14 46 [(.s 11), (.s 12), (.s 13)],
 vM 10 14,
 vP 15 (.ex (.s 10) 0),
 vP 16 (.ex (.s 10) 1),
 vM 8 15,
 vM 9 16])
 (.seq (.seq (.region [vM 17 9,
 vP 18 (vc .neq 17 0)])
 (.cond (.s 18) (.seq (.region [vP 19 (.bld [(.bool false), (.bool false), (.bool false)] []),
 vM 20 9,
 ⟨none, none, .inl (.st 3 (.s 6) (.s 19))⟩,
 vM 7 20])
 (.ret))
 (.skip)))
 (.seq (.draw [vD (vM 21 8) 0,
 vD (vP 22 (.ias 2 (.s 21) (vi 0))) 1,
 vD (vF 23 22 0) 3,
 vD (vL 24 1 23) 7,
 vD (vP 25 (vc .lss 24 0)) 15,
 vD (vM 26 8) 0,
 vD (vN 27 21 [(.s 26), (vi 0)]) 32,
 vD (vM 28 8) 0,
 vD (vM 29 8) 0,
 vD (vP 30 (.len (.s 29))) 256,
 vD (vP 31 (vc .sub 30 1)) 768,
 vD (vI 32 2 28 31) 1920,
 vD (vF 33 32 1) 3968,
 vD (vL 34 1 33) 8064,
 vD (vP 35 (vc .gtr 34 0)) 16256,
 vD (vP 36 (.bld [(.bool false), (.bool false), (.bool false)] [(0, 1, (.s 25)), (1, 1, (.s 27)), (2, 1, (.s 35))])) 32767,
 ⟨⟨none, none, .inl (.st 3 (.s 6) (.s 36))⟩, (some [.at 6]), [], 65535, false⟩,
 vD (vP 7 (.mv (vi 0))) 131071])
 (.ret))))
def k37l0 : Cd :=
  .region [vM 16 52]
def k37l1 : Cd :=
  .block 3 (.seq (.region [vM 53 16,
 vN 54 52 [(.s 53)],
 vM 17 54])
 (.seq (.draw [vD (vL 55 1 8) 0,
 vD (vM 56 17) 0,
 vD (vP 57 (.mm false (.s 55) (.s 56))) 3,
 ⟨vL 58 1 9, some [], [.at 8], 0, false⟩,
 vD (vM 59 17) 0,
 vD (vP 60 (.mm true (.s 58) (.s 59))) 24,
 ⟨⟨none, none, .inl (.st 1 (.s 8) (.s 57))⟩, (some [.at 8]), [], 7, false⟩,
 ⟨⟨none, none, .inl (.st 1 (.s 9) (.s 60))⟩, (some [.at 9]), [], 127, false⟩])
 (.seq (.region [vL 61 1 8,
 vP 62 (vc .eql 61 0),
 vM 63 62,
 vT 63 64 (.ld false 1 (.s 9)),
 vT 63 65 (.ld false 1 (.s 5)),
 vT 63 66 (.len (.s 65)),
 vT 63 67 (vb .eql 64 66),
 vP 68 (.pick (.s 63) (.s 67) (.c (.bool false)))])
 (.cond (.s 68) (.exit 0)
 (.skip)))))
def k37l2 : Cd :=
  .seq (.region [vP 44 (vb .lss 43 42)])
 (.seq (.cond (.s 44) (.skip)
 (.exit 0))
 (.seq (.block 1 (.seq (.region [vI 45 1 41 43,
 vL 46 1 45,
 vM 15 46])
 (.seq (.region [vP 47 (.ld true 5 (.s 12)),
 vM 48 15,
 vN 49 50 [(.s 47), (.s 48)],
 vM 50 13,
 vN 51 51 [(.s 49), (.s 50)]])
 (.block 2 (.rangeF (.s 51) [52] k37l0 k37l1)))))
 (.region [vP 69 (vc .add 43 1),
 vM 43 69])))
def k37 : Cd :=
  .seq (.region [vP 4 (.box 50 2 (.s 0)),
 vP 5 (.box 61 1 (.s 1)),
 vP 7 (.box 40 2 (.s 3)),
 vP 8 (.alloc 3 [(.int .i64 0)]),
 vP 9 (.alloc 3 [(.int .i64 0)]),
 vP 10 (.mv (vi 0))])
  (.scope (.seq (.seq (.region [vL 18 1 5,
 vP 19 (.ld true 2 (.s 7)),
 vN 20 47 [(.s 18), (.s 19)],
 vM 11 20])
 (.seq (.region [vM 21 11,
 vP 22 (vc .neq 21 0)])
 (.cond (.s 22) (.seq (.region [vM 23 11,
 ⟨none, none, .inl (.st 1 (.s 8) (vi 0))⟩,
 ⟨none, none, .inl (.st 1 (.s 9) (vi 0))⟩,
 vM 10 23])
 (.ret))
 (.skip))))
 (.seq (.region [vP 25 (.ld true 2 (.s 4)),
 vL 26 1 5,
 vM 27 2,
 vN 28 48 [(.s 25), (.s 26), (.s 27)],
 vM 24 28,
 vP 29 (.ex (.s 24) 0),
 vP 30 (.ex (.s 24) 1),
 vP 12 (.alloc 79 [(.slice none 0 0), (.slice none 0 0), (.slice none 0 0), (.int .i64 0), (.slice none 0 0)]),
 ⟨none, none, .inl (.st 5 (.s 12) (.s 29))⟩,
 vM 10 30])
 (.seq (.seq (.region [vM 31 10,
 vP 32 (vc .neq 31 0)])
 (.cond (.s 32) (.seq (.region [vM 33 10,
 ⟨none, none, .inl (.st 1 (.s 8) (vi 0))⟩,
 ⟨none, none, .inl (.st 1 (.s 9) (vi 0))⟩,
 vM 10 33])
 (.ret))
 (.skip)))
 (.seq (.region [vP 34 (.ld true 5 (.s 12)),
 vL 35 1 5,
 vP 36 (.ld true 2 (.s 7)),
 vN 37 49 [(.s 34), (.s 35), (.s 36)],
 vM 13 37])
 (.seq (.region [vL 38 1 5,
 vP 39 (.len (.s 38)),
 ⟨none, none, .inl (.st 1 (.s 8) (.s 39))⟩])
 (.seq (.skip)
 (.seq (.seq (.region [vF 40 12 4,
 vL 41 1 40,
 vP 42 (.len (.s 41)),
 vP 43 (.mv (vi 0))])
 (.block 0 (.loop k37l2)))
 (.seq (.draw [vD (vL 70 1 8) 0,
 ⟨vL 71 1 9, some [], [.at 8], 0, false⟩,
 ⟨⟨none, none, .inl (.st 1 (.s 8) (.s 70))⟩, (some [.at 8]), [], 1, false⟩,
 ⟨⟨none, none, .inl (.st 1 (.s 9) (.s 71))⟩, (some [.at 9]), [], 7, false⟩,
 vD (vP 10 (.mv (vi 0))) 15])
 (.ret))))))))))
def k38 : Cd :=
  .seq (.region [vP 4 (.mv (vi 0)),
 vP 5 (.alloc 63 [(.int .i64 0), (.int .i64 0)]),
 vP 6 (.mv (vi 0))])
 (.seq (.region [vM 11 0,
 vM 12 1,
 vN 13 53 [(.s 11), (.s 12)],
 vM 10 13,
 vP 14 (.ex (.s 10) 0),
 vP 15 (.ex (.s 10) 1),
 vM 7 14,
 vM 8 15])
 (.seq (.seq (.region [vM 16 8,
 vP 17 (vc .neq 16 0)])
 (.cond (.s 17) (.seq (.region [vP 18 (.bld [(.int .i64 0), (.int .i64 0)] []),
 vM 19 8,
 vP 4 (.mv (vi 0)),
 ⟨none, none, .inl (.st 2 (.s 5) (.s 18))⟩,
 vM 6 19])
 (.ret))
 (.skip)))
 (.seq (.region [vM 20 7,
 vN 21 54 [(.s 20), (.f 55)],
 vP 9 (.alloc 63 [(.int .i64 0), (.int .i64 0)]),
 ⟨none, none, .inl (.st 2 (.s 9) (.s 21))⟩])
 (.seq (.draw [vD (vM 22 7) 0,
 vD (vP 23 (.ld true 2 (.s 9))) 0,
 vD (vN 24 56 [(.s 22), (.s 23)]) 3,
 vD (vP 25 (.ld true 2 (.s 9))) 0,
 vD (vM 4 24) 7,
 ⟨⟨none, none, .inl (.st 2 (.s 5) (.s 25))⟩, (some [.at 5]), [], 31, false⟩,
 vD (vP 6 (.mv (vi 0))) 63])
 (.ret)))))
def k39 : Cd :=
  .seq (.region [vP 4 (.mv (.c (.bool false)))])
 (.seq (.region [vM 5 0,
 vM 6 1,
 vN 7 57 [(.s 5), (.s 6)],
 vP 8 (vc .geq 7 0),
 vM 4 8])
 (.ret))
def k40l0 : Cd :=
  .seq (.region [vP 9 (vb .lss 8 7)])
 (.seq (.cond (.s 9) (.skip)
 (.exit 0))
 (.seq (.block 1 (.seq (.region [vI 10 2 6 8,
 vP 11 (.ld true 2 (.s 10)),
 vP 5 (.alloc 40 [(.int .i64 0), (.int .i64 0)]),
 ⟨none, none, .inl (.st 2 (.s 5) (.s 11))⟩])
 (.seq (.region [vF 12 5 0,
 vL 13 1 12,
 vP 14 (.mm true (.s 13) (.c (.int .i64 (-1000000000)))),
 vF 15 5 1,
 vL 16 1 15,
 vP 17 (.mm false (.s 16) (vi 1000000000)),
 vP 18 (.bld [(.int .i64 0), (.int .i64 0)] [(0, 1, (.s 14)), (1, 1, (.s 17))]),
 ⟨none, none, .inl (.st 2 (.s 5) (.s 18))⟩])
 (.seq (.region [vF 19 5 0,
 vL 20 1 19,
 vF 21 5 1,
 vL 22 1 21,
 vP 23 (vb .leq 20 22)])
 (.cond (.s 23) (.region [vM 24 3,
 vP 25 (.ld true 2 (.s 5)),
 vP 26 (.bs 40 2 1 [(.int .i64 0), (.int .i64 0)] [(0, (.s 25))]),
 vP 27 (.app 40 2 16 (.s 24) (.s 26)),
 vM 3 27])
 (.skip))))))
 (.region [vP 28 (vc .add 8 1),
 vM 8 28])))
def k40 : Cd :=
  .seq (.region [vP 2 (.mv (.c (.slice none 0 0)))])
 (.seq (.region [vP 3 (.mv (.c (.slice none 0 0)))])
 (.seq (.seq (.region [vM 6 0,
 vP 7 (.len (.s 6)),
 vP 8 (.mv (vi 0))])
 (.block 0 (.loop k40l0)))
 (.seq (.region [vM 29 3,
 vM 2 29])
 (.ret))))
def k41 : Cd :=
  .seq (.region [vP 2 (.box 40 2 (.s 0)),
 vP 3 (.mv (.c (.bool false)))])
 (.seq (.region [vL 4 1 1,
 vF 5 2 0,
 vL 6 1 5,
 vF 7 2 1,
 vL 8 1 7,
 vN 9 42 [(.s 4), (.s 6), (.s 8)],
 vM 3 9])
 (.ret))
def k42 : Cd :=
  .seq (.region [vP 6 (.mv (.c (.bool false)))])
 (.seq (.region [vM 7 1,
 vM 8 0,
 vP 9 (vb .leq 7 8),
 vM 10 9,
 vT 10 11 (.mv (.s 0)),
 vT 10 12 (.mv (.s 2)),
 vT 10 13 (vb .leq 11 12),
 vP 14 (.pick (.s 10) (.s 13) (.c (.bool false))),
 vM 6 14])
 (.ret))
def k43l0 : Cd :=
  .seq (.region [vP 14 (vb .lss 13 12)])
 (.seq (.cond (.s 14) (.skip)
 (.exit 0))
 (.seq (.block 1 (.seq (.region [vI 15 2 11 13,
 vP 16 (.ld true 2 (.s 15)),
 vP 7 (.alloc 40 [(.int .i64 0), (.int .i64 0)]),
 ⟨none, none, .inl (.st 2 (.s 7) (.s 16))⟩])
 (.region [vM 17 5,
 vF 18 7 0,
 vL 19 1 18,
 vP 20 (.bld [(.int .i64 0), (.int .i64 0), (.int .i64 0)] [(0, 1, (.s 19)), (1, 1, (vi 1)), (2, 1, (vi 0))]),
 vF 21 7 1,
 vL 22 1 21,
 vP 23 (vc .add 22 1),
 vP 24 (.bld [(.int .i64 0), (.int .i64 0), (.int .i64 0)] [(0, 1, (.s 23)), (1, 1, (.c (.int .i64 (-1)))), (2, 1, (vi 0))]),
 vP 25 (.bs 74 3 2 [(.int .i64 0), (.int .i64 0), (.int .i64 0)] [(0, (.s 20)), (1, (.s 24))]),
 vP 26 (.app 74 3 24 (.s 17) (.s 25)),
 vM 5 26])))
 (.region [vP 27 (vc .add 13 1),
 vM 13 27])))
def k43l1 : Cd :=
  .seq (.region [vP 32 (vb .lss 31 30)])
 (.seq (.cond (.s 32) (.skip)
 (.exit 2))
 (.seq (.block 3 (.seq (.region [vI 33 2 29 31,
 vP 34 (.ld true 2 (.s 33)),
 vP 9 (.alloc 40 [(.int .i64 0), (.int .i64 0)]),
 ⟨none, none, .inl (.st 2 (.s 9) (.s 34))⟩])
 (.region [vM 35 5,
 vF 36 9 0,
 vL 37 1 36,
 vP 38 (.bld [(.int .i64 0), (.int .i64 0), (.int .i64 0)] [(0, 1, (.s 37)), (1, 1, (vi 0)), (2, 1, (vi 1))]),
 vF 39 9 1,
 vL 40 1 39,
 vP 41 (vc .add 40 1),
 vP 42 (.bld [(.int .i64 0), (.int .i64 0), (.int .i64 0)] [(0, 1, (.s 41)), (1, 1, (vi 0)), (2, 1, (.c (.int .i64 (-1))))]),
 vP 43 (.bs 74 3 2 [(.int .i64 0), (.int .i64 0), (.int .i64 0)] [(0, (.s 38)), (1, (.s 42))]),
 vP 44 (.app 74 3 24 (.s 35) (.s 43)),
 vM 5 44])))
 (.region [vP 45 (vc .add 31 1),
 vM 31 45])))
def k43 : Cd :=
  .seq (.region [vP 4 (.mv (.c .nilFunc))])
 (.seq (.region [vP 5 (.mv (.c (.slice none 0 0)))])
 (.seq (.seq (.region [vM 10 0,
 vN 11 40 [(.s 10)],
 vP 12 (.len (.s 11)),
 vP 13 (.mv (vi 0))])
 (.block 0 (.loop k43l0)))
 (.seq (.seq (.region [vM 28 1,
 vN 29 40 [(.s 28)],
 vP 30 (.len (.s 29)),
 vP 31 (.mv (vi 0))])
 (.block 2 (.loop k43l1)))
 (.seq (.region [vM 46 5,
 vN 47 58 [(.s 46), (.f 59)]])
 (.seq (.region [vM 48 5,
 vN 49 61 [(.s 48)],
 vM 4 49])
 (.ret))))))
def k44 : Cd :=
  .seq (.region [vP 3 (.box 40 2 (.s 1)),
 vP 4 (.mv (.c (.slice none 0 0)))])
 (.seq (.seq (.region [vM 6 0,
 vP 7 (.len (.s 6)),
 vP 8 (vc .sub 7 1),
 vM 5 8])
 (.seq (.draw [vD (vM 9 5) 0,
 vD (vP 10 (vc .geq 9 0)) 1,
 vD (vM 11 10) 3,
 vD (vT 11 12 (.mv (.s 0))) 7,
 vD (vT 11 13 (.mv (.s 5))) 7,
 vD (vT 11 14 (.ias 2 (.s 12) (.s 13))) 31,
 vD (vT 11 15 (.fa (.s 14) 1)) 63,
 vD (vT 11 16 (.ld false 1 (.s 15))) 127,
 vD (vT 11 17 (vc .add 16 1)) 255,
 vD (vT 11 18 (.fa (.s 3) 0)) 7,
 vD (vT 11 19 (.ld false 1 (.s 18))) 519,
 vD (vT 11 20 (vb .eql 17 19)) 2047,
 vD (vP 21 (.pick (.s 11) (.s 20) (.c (.bool false)))) 4095])
 (.cond (.s 21) (.seq (.region [vM 22 0,
 vM 23 5,
 vF 24 3 1,
 vL 25 1 24,
 vI 26 2 22 23,
 vF 27 26 1,
 ⟨none, none, .inl (.st 1 (.s 27) (.s 25))⟩])
 (.seq (.region [vM 28 0,
 vM 4 28])
 (.ret)))
 (.skip))))
 (.seq (.region [vM 29 0,
 vP 30 (.ld true 2 (.s 3)),
 vP 31 (.bs 40 2 1 [(.int .i64 0), (.int .i64 0)] [(0, (.s 30))]),
 vP 32 (.app 40 2 16 (.s 29) (.s 31)),
 vM 4 32])
 (.ret)))
def k45 : Cd :=
  .seq (.region [vP 3 (.box 50 2 (.s 0)),
 vP 4 (.box 52 5 (.s 1)),
 vP 6 (.mv (.c (.slice none 0 0))),
 vP 7 (.mv (vi 0))])
 (.seq (.seq (.region [vP 9 (.ld true 5 (.s 4)),
 vN 10 62 [(.s 9)],
 vM 8 10])
 (.seq (.region [vM 11 8,
 vP 12 (vc .neq 11 0)])
 (.cond (.s 12) (.seq (.region [vM 13 8,
 vP 6 (.mv (.c (.slice none 0 0))),
 vM 7 13])
 (.ret))
 (.skip))))
 (.seq (.region [vP 14 (.ld true 2 (.s 3)),
 vM 15 2,
 vF 16 4 2,
 vL 17 1 16,
 vN 18 63 [(.s 14), (.s 15), (.s 17)],
 vP 19 (.ex (.s 18) 0),
 vP 20 (.ex (.s 18) 1),
 vM 6 19,
 vM 7 20])
 (.ret)))
def k46 : Cd :=
  .seq (.region [vP 3 (.box 50 2 (.s 0)),
 vP 4 (.box 52 5 (.s 1)),
 vP 5 (.box 52 5 (.s 2)),
 vP 6 (.mv (.c (.slice none 0 0))),
 vP 7 (.mv (vi 0))])
 (.seq (.seq (.region [vP 11 (.ld true 5 (.s 4)),
 vN 12 62 [(.s 11)],
 vM 8 12])
 (.seq (.region [vM 13 8,
 vP 14 (vc .neq 13 0)])
 (.cond (.s 14) (.seq (.region [vM 15 8,
 vP 6 (.mv (.c (.slice none 0 0))),
 vM 7 15])
 (.ret))
 (.skip))))
 (.seq (.region [vP 17 (.ld true 2 (.s 3)),
 vP 18 (.ld true 5 (.s 5)),
 vF 19 4 2,
 vL 20 1 19,
 vN 21 45 [(.s 17), (.s 18), (.s 20)],
 vM 16 21,
 vP 22 (.ex (.s 16) 0),
 vP 23 (.ex (.s 16) 1),
 vM 9 22,
 vM 10 23])
 (.seq (.region [vM 24 9,
 vF 25 5 3,
 vL 26 1 25,
 vF 27 4 4,
 vL 28 1 27,
 vP 29 (vb .sub 26 28),
 vF 30 5 4,
 vL 31 1 30,
 vF 32 4 3,
 vL 33 1 32,
 vP 34 (vb .sub 31 33),
 vN 35 23 [(.s 24), (.s 29), (.s 34)],
 vM 36 10,
 vM 6 35,
 vM 7 36])
 (.ret))))
def k47l0 : Cd :=
  .seq (.region [vP 14 (vb .lss 13 12)])
 (.seq (.cond (.s 14) (.skip)
 (.exit 0))
 (.seq (.block 1 (.seq (.region [vI 15 5 11 13,
 vP 16 (.ld true 5 (.s 15)),
 vP 6 (.alloc 52 [(.int .i64 0), (.int .i64 0), (.int .i64 0), (.int .i64 0), (.int .i64 0)]),
 ⟨none, none, .inl (.st 5 (.s 6) (.s 16))⟩])
 (.seq (.region [vP 17 (.ld true 5 (.s 6)),
 vN 18 62 [(.s 17)],
 vM 7 18])
 (.seq (.region [vM 19 7,
 vP 20 (vc .neq 19 0)])
 (.cond (.s 20) (.seq (.region [vM 21 7,
 vM 4 21])
 (.ret))
 (.skip))))))
 (.region [vP 22 (vc .add 13 1),
 vM 13 22])))
def k47 : Cd :=
  .seq (.region [vP 3 (.box 40 2 (.s 1)),
 vP 4 (.mv (vi 0))])
 (.seq (.seq (.region [vM 8 0,
 vP 9 (.len (.s 8)),
 vP 10 (vc .gtr 9 8)])
 (.cond (.s 10) (.seq (.region [vP 4 (.mv (vi 2))])
 (.ret))
 (.skip)))
 (.seq (.seq (.region [vM 11 0,
 vP 12 (.len (.s 11)),
 vP 13 (.mv (vi 0))])
 (.block 0 (.loop k47l0)))
 (.seq (.seq (.region [vF 23 3 0,
 vL 24 1 23,
 vP 25 (.bin .lss (.s 24) (.c (.int .i64 (-100000)))),
 vM 26 25,
 vU 26 27 (.fa (.s 3) 0),
 vU 26 28 (.ld false 1 (.s 27)),
 vU 26 29 (.fa (.s 3) 1),
 vU 26 30 (.ld false 1 (.s 29)),
 vU 26 31 (vb .gtr 28 30),
 vP 32 (.pick (.s 26) (.c (.bool true)) (.s 31)),
 vM 33 32,
 vU 33 34 (.fa (.s 3) 1),
 vU 33 35 (.ld false 1 (.s 34)),
 vU 33 36 (vc .gtr 35 100000),
 vP 37 (.pick (.s 33) (.c (.bool true)) (.s 36))])
 (.cond (.s 37) (.seq (.region [vP 4 (.mv (vi 60))])
 (.ret))
 (.skip)))
 (.seq (.region [vP 4 (.mv (vi 0))])
 (.ret)))))
def k48 : Cd :=
  .seq (.region [vP 3 (.box 50 2 (.s 0)),
 vP 6 (.alloc 79 [(.slice none 0 0), (.slice none 0 0), (.slice none 0 0), (.int .i64 0), (.slice none 0 0)]),
 vP 7 (.mv (vi 0))])
 (.seq (.seq (.region [vP 13 (.ld true 2 (.s 3)),
 vN 14 64 [(.s 13)],
 vM 8 14])
 (.seq (.region [vM 15 8,
 vP 16 (vc .neq 15 0)])
 (.cond (.s 16) (.seq (.region [vP 17 (.bld [(.slice none 0 0), (.slice none 0 0), (.slice none 0 0), (.int .i64 0), (.slice none 0 0)] []),
 vM 18 8,
 ⟨none, none, .inl (.st 5 (.s 6) (.s 17))⟩,
 vM 7 18])
 (.ret))
 (.skip))))
 (.seq (.region [vP 19 (.ld true 2 (.s 3)),
 vN 20 65 [(.s 19)],
 vP 9 (.alloc 66 [(.slice none 0 0)]),
 ⟨none, none, .inl (.st 1 (.s 9) (.s 20))⟩])
 (.seq (.region [vP 21 (.mkf (.func 66) [] [(.s 9)]),
 vP 10 (.alloc 108 [.nilFunc]),
 ⟨none, none, .inl (.st 1 (.s 10) (.s 21))⟩])
 (.seq (.seq (.region [vL 22 1 10,
 vM 23 2,
 ⟨none, some 24, .inr (.val false (.s 22) [(.s 23)])⟩,
 vM 25 24,
 vU 25 26 (.mv (.s 1)),
 vU 25 27 (.mkf (.func 69) [] [(.s 10)]),
 ⟨some (25, false), some 28, .inr (.fn 68 [(.s 26), (.s 27)])⟩,
 vP 29 (.pick (.s 25) (.c (.bool true)) (.s 28))])
 (.cond (.s 29) (.seq (.region [vP 30 (.bld [(.slice none 0 0), (.slice none 0 0), (.slice none 0 0), (.int .i64 0), (.slice none 0 0)] []),
 ⟨none, none, .inl (.st 5 (.s 6) (.s 30))⟩,
 vP 7 (.mv (vi 3))])
 (.ret))
 (.skip)))
 (.seq (.region [vP 32 (.ld true 2 (.s 3)),
 vN 33 70 [(.s 32)],
 vM 31 33,
 vP 34 (.ex (.s 31) 0),
 vP 35 (.ex (.s 31) 1),
 vM 11 34,
 vM 12 35])
 (.seq (.seq (.region [vM 36 11,
 vP 37 (.len (.s 36)),
 vP 38 (vc .eql 37 0)])
 (.cond (.s 38) (.seq (.region [vP 39 (.bld [(.slice none 0 0), (.slice none 0 0), (.slice none 0 0), (.int .i64 0), (.slice none 0 0)] []),
 ⟨none, none, .inl (.st 5 (.s 6) (.s 39))⟩,
 vP 7 (.mv (vi 25))])
 (.ret))
 (.skip)))
 (.seq (.draw [vD (vP 40 (.ld true 2 (.s 3))) 0,
 vD (vL 41 1 9) 0,
 vD (vL 42 1 9) 0,
 vD (vM 43 2) 0,
 vD (vN 44 71 [(.s 42), (.s 43)]) 12,
 vD (vM 45 11) 0,
 vD (vP 46 (.bld [(.slice none 0 0), (.slice none 0 0), (.slice none 0 0), (.int .i64 0), (.slice none 0 0)] [(0, 2, (.s 40)), (2, 1, (.s 41)), (3, 1, (.s 44)), (4, 1, (.s 45))])) 63,
 ⟨⟨none, none, .inl (.st 5 (.s 6) (.s 46))⟩, (some [.at 6]), [], 127, false⟩,
 vD (vP 7 (.mv (vi 0))) 255])
 (.ret))))))))
def k49l0 : Cd :=
  .seq (.region [vP 48 (vb .lss 47 46)])
 (.seq (.cond (.s 48) (.skip)
 (.exit 2))
 (.seq (.block 3 (.seq (.region [vI 49 2 45 47,
 vP 50 (.ld true 2 (.s 49)),
 vP 14 (.alloc 40 [(.int .i64 0), (.int .i64 0)]),
 ⟨none, none, .inl (.st 2 (.s 14) (.s 50))⟩])
 (.draw [vD (vM 51 9) 0,
 vD (vM 52 10) 0,
 vD (vM 53 9) 0,
 vD (vM 54 10) 0,
 vD (vI 55 1 53 54) 12,
 ⟨vL 56 1 55, some [], [.fr 60], 28, false⟩,
 vD (vP 57 (.ld true 2 (.s 14))) 0,
 vD (vM 58 12) 0,
 vD (vP 59 (.bld [(.int .i64 0), (.int .i64 0), (.int .i64 0), (.bool false)] [(0, 2, (.s 57)), (2, 1, (.s 58)), (3, 1, (.c (.bool true)))])) 192,
 ⟨vP 60 (.bs 115 4 1 [(.int .i64 0), (.int .i64 0), (.int .i64 0), (.bool false)] [(0, (.s 59))]), (some [.fr 60]), [], 448, false⟩,
 ⟨vP 61 (.app 115 4 32 (.s 56) (.s 60)), (some [.fr 61, .at 56]), [], 1020, false⟩,
 vD (vI 62 1 51 52) 2047,
 ⟨⟨none, none, .inl (.st 1 (.s 62) (.s 61))⟩, (some [.at 9]), [], 4095, false⟩])))
 (.region [vP 63 (vc .add 47 1),
 vM 47 63])))
def k49l1 : Cd :=
  .seq (.region [vP 74 (vb .lss 73 72)])
 (.seq (.cond (.s 74) (.skip)
 (.exit 4))
 (.seq (.block 5 (.seq (.region [vI 75 2 71 73,
 vP 76 (.ld true 2 (.s 75)),
 vP 16 (.alloc 40 [(.int .i64 0), (.int .i64 0)]),
 ⟨none, none, .inl (.st 2 (.s 16) (.s 76))⟩])
 (.draw [vD (vM 77 9) 0,
 vD (vM 78 10) 0,
 vD (vM 79 9) 0,
 vD (vM 80 10) 0,
 vD (vI 81 1 79 80) 12,
 ⟨vL 82 1 81, some [], [.fr 86], 28, false⟩,
 vD (vP 83 (.ld true 2 (.s 16))) 0,
 vD (vM 84 12) 0,
 vD (vP 85 (.bld [(.int .i64 0), (.int .i64 0), (.int .i64 0), (.bool false)] [(0, 2, (.s 83)), (2, 1, (.s 84)), (3, 1, (.c (.bool false)))])) 192,
 ⟨vP 86 (.bs 115 4 1 [(.int .i64 0), (.int .i64 0), (.int .i64 0), (.bool false)] [(0, (.s 85))]), (some [.fr 86]), [], 448, false⟩,
 ⟨vP 87 (.app 115 4 32 (.s 82) (.s 86)), (some [.fr 87, .at 82]), [], 1020, false⟩,
 vD (vI 88 1 77 78) 2047,
 ⟨⟨none, none, .inl (.st 1 (.s 88) (.s 87))⟩, (some [.at 9]), [], 4095, false⟩])))
 (.region [vP 89 (vc .add 73 1),
 vM 73 89])))
def k49l2 : Cd :=
  .seq (.region [vP 29 (vb .lss 28 27)])
 (.seq (.cond (.s 29) (.skip)
 (.exit 0))
 (.seq (.block 1 (.seq (.region [vM 30 28,
 vI 31 5 26 28,
 vP 32 (.ld true 5 (.s 31)),
 vP 11 (.alloc 52 [(.int .i64 0), (.int .i64 0), (.int .i64 0), (.int .i64 0), (.int .i64 0)]),
 vM 10 30,
 ⟨none, none, .inl (.st 5 (.s 11) (.s 32))⟩])
 (.seq (.region [vF 33 3 2,
 vL 34 1 33,
 vF 35 11 2,
 vL 36 1 35,
 vN 37 71 [(.s 34), (.s 36)],
 vM 12 37])
 (.seq (.seq (.region [vM 38 7,
 vF 39 11 4,
 vL 40 1 39,
 vP 41 (.neg (.s 40)),
 vF 42 11 3,
 vL 43 1 42,
 vP 44 (.neg (.s 43)),
 vN 45 23 [(.s 38), (.s 41), (.s 44)],
 vP 46 (.len (.s 45)),
 vP 47 (.mv (vi 0))])
 (.block 2 (.loop k49l0)))
 (.seq (.region [vM 64 8,
 vF 65 11 4,
 vL 66 1 65,
 vP 67 (.neg (.s 66)),
 vF 68 11 3,
 vL 69 1 68,
 vP 70 (.neg (.s 69)),
 vN 71 23 [(.s 64), (.s 67), (.s 70)],
 vP 72 (.len (.s 71)),
 vP 73 (.mv (vi 0))])
 (.block 4 (.loop k49l1)))))))
 (.region [vP 90 (vc .add 28 1),
 vM 28 90])))
def k49 : Cd :=
  .seq (.region [vP 3 (.box 79 5 (.s 0)),
 vP 5 (.box 40 2 (.s 2)),
 vP 6 (.mv (.c (.slice none 0 0)))])
 (.seq (.region [vP 17 (.ld true 2 (.s 5)),
 vP 18 (.bs 40 2 1 [(.int .i64 0), (.int .i64 0)] [(0, (.s 17))]),
 vM 7 18])
 (.seq (.region [vP 19 (.bld [(.int .i64 0), (.int .i64 0)] [(0, 1, (.c (.int .i64 (-1000000000)))), (1, 1, (vi 1000000000))]),
 vP 20 (.bst 40 2 1 [(.int .i64 0), (.int .i64 0)] [(0, (.s 19))]),
 vM 21 7,
 vN 22 16 [(.s 20), (.s 21)],
 vM 8 22])
 (.seq (.region [vM 23 1,
 vP 24 (.len (.s 23)),
 vP 25 (.mks 90 1 24 [(.slice none 0 0)] (.s 24) (.s 24)),
 vM 9 25])
 (.seq (.seq (.region [vM 26 1,
 vP 27 (.len (.s 26)),
 vP 28 (.mv (vi 0))])
 (.block 0 (.loop k49l2)))
 (.seq (.region [vM 91 9,
 vM 6 91])
 (.ret))))))
def k50l0 : Cd :=
  .seq (.region [vP 40 (vb .lss 39 38)])
 (.seq (.cond (.s 40) (.skip)
 (.exit 0))
 (.seq (.block 1 (.seq (.region [vM 41 39,
 vM 10 41])
 (.seq (.draw [vD (vF 42 9 5) 0,
 ⟨vL 43 1 42, some [], [.keep 9], 1, false⟩,
 vD (vM 44 10) 0,
 ⟨vP 45 (.bst 3 1 1 [(.int .i64 0)] [(0, (vi 1000000000))]), (some [.fr 45]), [.av 9], 0, false⟩,
 vD (vF 46 2 2) 0,
 ⟨vL 47 1 46, some [], [.fr 45], 16, false⟩,
 vD (vP 48 (.len (.s 47))) 48,
 ⟨vN 49 74 [(.s 45), (.s 48)], none, [.av 9], 120, false⟩,
 vD (vI 50 1 43 44) 255,
 ⟨⟨none, none, .inl (.st 1 (.s 50) (.s 49))⟩, (some [.at 43]), [], 511, false⟩])
 (.region [vF 51 9 5,
 vL 52 1 51,
 vM 53 10,
 vI 54 1 52 53,
 vL 55 1 54,
 vM 56 10,
 vI 57 1 55 56,
 ⟨none, none, .inl (.st 1 (.s 57) (vi 0))⟩]))))
 (.region [vP 58 (vc .add 39 1),
 vM 39 58])))
def k50l1 : Cd :=
  .seq (.region [vP 67 (vb .lss 66 65)])
 (.seq (.cond (.s 67) (.skip)
 (.exit 2))
 (.seq (.block 3 (.seq (.region [vM 68 66,
 vI 69 1 64 66,
 vL 70 1 69,
 vM 12 68,
 vM 13 70])
 (.region [vM 71 11,
 vM 72 12,
 vF 73 2 2,
 vL 74 1 73,
 vM 75 13,
 vN 76 71 [(.s 74), (.s 75)],
 vI 77 1 71 72,
 ⟨none, none, .inl (.st 1 (.s 77) (.s 76))⟩])))
 (.region [vP 78 (vc .add 66 1),
 vM 66 78])))
def k50l2 : Cd :=
  .seq (.region [vP 90 (vb .lss 89 88)])
 (.seq (.cond (.s 90) (.skip)
 (.exit 6))
 (.seq (.block 7 (.seq (.region [vM 91 89,
 vI 92 1 87 89,
 vL 93 1 92,
 vM 16 91,
 vM 17 93])
 (.draw [vD (vF 94 9 5) 0,
 vD (vL 95 1 94) 1,
 vD (vM 96 11) 0,
 vD (vM 97 14) 0,
 vD (vI 98 1 96 97) 12,
 vD (vL 99 1 98) 28,
 vD (vI 100 1 95 99) 63,
 vD (vL 101 1 100) 127,
 vD (vM 102 11) 0,
 vD (vM 103 16) 0,
 vD (vI 104 1 102 103) 768,
 vD (vL 105 1 104) 1792,
 vD (vM 106 17) 0,
 vD (vI 107 1 101 105) 8191,
 ⟨⟨none, none, .inl (.st 1 (.s 107) (.s 106))⟩, (some [.at 101]), [], 16383, false⟩])))
 (.region [vP 108 (vc .add 89 1),
 vM 89 108])))
def k50l3 : Cd :=
  .seq (.region [vP 83 (vb .lss 82 81)])
 (.seq (.cond (.s 83) (.skip)
 (.exit 4))
 (.seq (.block 5 (.seq (.region [vM 84 82,
 vI 85 1 80 82,
 vL 86 1 85,
 vM 14 84,
 vM 15 86])
 (.seq (.region [vM 87 15,
 vP 88 (.len (.s 87)),
 vP 89 (.mv (vi 0))])
 (.block 6 (.loop k50l2)))))
 (.region [vP 109 (vc .add 82 1),
 vM 82 109])))
def k50 : Cd :=
  .seq (.region [vP 2 (.box 79 5 (.s 0)),
 vP 4 (.alloc 87 [(.slice none 0 0), (.slice none 0 0), (.slice none 0 0), (.int .i64 0), (.slice none 0 0), (.slice none 0 0)])])
 (.seq (.region [vF 19 2 0,
 vP 20 (.ld true 2 (.s 19)),
 vM 21 1,
 vN 22 72 [(.s 20), (.s 21)],
 vM 18 22,
 vP 23 (.ex (.s 18) 0),
 vP 24 (.ex (.s 18) 1),
 vM 5 23,
 vM 6 24])
 (.seq (.region [vM 26 5,
 vN 27 73 [(.s 26)],
 vM 25 27,
 vP 28 (.ex (.s 25) 0),
 vP 29 (.ex (.s 25) 1),
 vP 7 (.alloc 119 [(.slice none 0 0), (.slice none 0 0)]),
 ⟨none, none, .inl (.st 2 (.s 7) (.s 28))⟩,
 vM 8 29])
 (.seq (.draw [⟨vP 30 (.ld true 5 (.s 2)), some [], [.fr 34, .fr 9], 0, false⟩,
 vD (vF 31 2 2) 0,
 ⟨vL 32 1 31, some [], [.fr 9], 2, false⟩,
 vD (vP 33 (.len (.s 32))) 6,
 ⟨vP 34 (.mks 66 1 24 [(.slice none 0 0)] (.s 33) (.s 33)), (some [.fr 34]), [.fr 9], 14, false⟩,
 vD (vP 35 (.bld [(.slice none 0 0), (.slice none 0 0), (.slice none 0 0), (.int .i64 0), (.slice none 0 0), (.slice none 0 0)] [(0, 5, (.s 30)), (5, 1, (.s 34))])) 31,
 ⟨vP 9 (.alloc 87 [(.slice none 0 0), (.slice none 0 0), (.slice none 0 0), (.int .i64 0), (.slice none 0 0), (.slice none 0 0)]), (some [.fr 9]), [.fr 34], 0, false⟩,
 ⟨⟨none, none, .inl (.st 6 (.s 9) (.s 35))⟩, (some [.fr 9]), [], 127, false⟩])
 (.seq (.seq (.region [vF 36 9 5,
 vL 37 1 36,
 vP 38 (.len (.s 37)),
 vP 39 (.mv (vi 0))])
 (.block 0 (.loop k50l0)))
 (.seq (.region [vF 59 7 0,
 vL 60 1 59,
 vP 61 (.len (.s 60)),
 vP 62 (.mks 3 1 8 [(.int .i64 0)] (.s 61) (.s 61)),
 vM 11 62])
 (.seq (.seq (.region [vF 63 7 0,
 vL 64 1 63,
 vP 65 (.len (.s 64)),
 vP 66 (.mv (vi 0))])
 (.block 2 (.loop k50l1)))
 (.seq (.seq (.region [vF 79 7 1,
 vL 80 1 79,
 vP 81 (.len (.s 80)),
 vP 82 (.mv (vi 0))])
 (.block 4 (.loop k50l3)))
 (.seq (.region [vP 110 (.ld true 6 (.s 9)),
 ⟨none, none, .inl (.st 6 (.s 4) (.s 110))⟩])
 (.ret)))))))))
def k51 : Cd :=
  .seq (.region [vP 2 (.box 87 6 (.s 0)),
 vP 3 (.box 82 1 (.s 1)),
 vP 4 (.mv (.c .nilFunc))])
 (.seq (.region [vP 5 (.mkf (.func 75) [] [(.s 2), (.s 3)]),
 vM 4 5])
 (.ret))
def k52l0 : Cd :=
  .seq (.region [vP 9 (vb .lss 8 7)])
 (.seq (.cond (.s 9) (.skip)
 (.exit 0))
 (.seq (.block 1 (.seq (.region [vI 10 4 6 8,
 vP 11 (.ldv true 4 (.s 10)),
 vP 5 (.alloc 115 [(.int .i64 0), (.int .i64 0), (.int .i64 0), (.bool false)]),
 ⟨none, none, .inl (.st 4 (.s 5) (.s 11))⟩])
 (.seq (.region [vF 12 5 3,
 vL 13 1 12])
 (.cond (.s 13) (.region [vM 14 3,
 vP 15 (vc .add 14 1),
 vM 3 15])
 (.skip)))))
 (.region [vP 16 (vc .add 8 1),
 vM 8 16])))
def k52 : Cd :=
  .seq (.region [vP 2 (.mv (vi 0))])
 (.seq (.region [vP 3 (.mv (vi 0))])
 (.seq (.seq (.region [vM 6 0,
 vP 7 (.len (.s 6)),
 vP 8 (.mv (vi 0))])
 (.block 0 (.loop k52l0)))
 (.seq (.region [vM 17 3,
 vM 2 17])
 (.ret))))
def k53l0 : Cd :=
  .seq (.region [vP 24 (vb .lss 23 22)])
 (.seq (.cond (.s 24) (.skip)
 (.exit 0))
 (.seq (.block 1 (.seq (.region [vM 25 23,
 vM 7 25])
 (.seq (.region [vM 27 0,
 vM 28 7,
 vM 29 7,
 vM 30 1,
 vP 31 (vb .add 29 30),
 vP 32 (.slc 1 (.s 27) (some (.s 28)) (some (.s 31)) none),
 vN 33 78 [(.s 32)],
 vM 26 33,
 vP 34 (.ex (.s 26) 0),
 vP 35 (.ex (.s 26) 1),
 vP 8 (.alloc 63 [(.int .i64 0), (.int .i64 0)]),
 ⟨none, none, .inl (.st 2 (.s 8) (.s 34))⟩,
 vM 9 35])
 (.region [vM 36 6,
 vP 37 (.ld true 2 (.s 8)),
 vP 38 (.bs 63 2 1 [(.int .i64 0), (.int .i64 0)] [(0, (.s 37))]),
 vP 39 (.app 63 2 16 (.s 36) (.s 38)),
 vM 6 39]))))
 (.region [vP 40 (vc .add 23 1),
 vM 23 40])))
def k53 : Cd :=
  .seq (.region [vP 4 (.mv (.c (.slice none 0 0))),
 vP 5 (.mv (vi 0))])
 (.seq (.seq (.region [vM 10 0,
 vN 11 77 [(.s 10)],
 vP 12 (.not (.s 11))])
 (.cond (.s 12) (.seq (.region [vP 4 (.mv (.c (.slice none 0 0))),
 vP 5 (.mv (vi 62))])
 (.ret))
 (.skip)))
 (.seq (.seq (.region [vM 13 1,
 vM 14 0,
 vP 15 (.len (.s 14)),
 vN 16 42 [(.s 13), (vi 1), (.s 15)],
 vP 17 (.not (.s 16))])
 (.cond (.s 17) (.seq (.region [vP 4 (.mv (.c (.slice none 0 0))),
 vP 5 (.mv (vi 63))])
 (.ret))
 (.skip)))
 (.seq (.region [vP 6 (.mv (.c (.slice none 0 0)))])
 (.seq (.seq (.region [vM 18 0,
 vP 19 (.len (.s 18)),
 vM 20 1,
 vP 21 (vb .sub 19 20),
 vP 22 (vc .add 21 1),
 vP 23 (.mv (vi 0))])
 (.block 0 (.loop k53l0)))
 (.seq (.region [vM 41 6,
 vM 4 41,
 vP 5 (.mv (vi 0))])
 (.ret))))))
def k54l0 : Cd :=
  .seq (.seq (.region [vM 14 6,
 vM 15 0,
 vP 16 (.len (.s 15)),
 vP 17 (vb .lss 14 16)])
 (.cond (.s 17) (.skip)
 (.exit 0)))
 (.seq (.block 1 (.seq (.draw [vD (vM 20 1) 0,
 vD (vM 21 0) 0,
 vD (vM 22 6) 0,
 vD (vI 23 2 21 22) 6,
 vD (vP 24 (.ld true 2 (.s 23))) 14,
 vD (vP 25 (.ld true 2 (.s 5))) 0,
 ⟨⟨none, some 26, .inr (.val false (.s 20) [(.s 24), (.s 25)])⟩, some [], [], 63, false⟩,
 vD (vP 27 (vc .gtr 26 0)) 127])
 (.cond (.s 27) (.region [vM 28 0,
 vM 29 6,
 vI 30 2 28 29,
 vP 31 (.ld true 2 (.s 30)),
 ⟨none, none, .inl (.st 2 (.s 5) (.s 31))⟩])
 (.skip))))
 (.region [vM 18 6,
 vP 19 (vc .add 18 1),
 vM 6 19]))
def k54 : Cd :=
  .seq (.region [vP 4 (.alloc 63 [(.int .i64 0), (.int .i64 0)])])
 (.seq (.seq (.region [vM 7 0,
 vP 8 (.len (.s 7)),
 vP 9 (vc .lss 8 1)])
 (.cond (.s 9) (.region [⟨none, some 10, .inl (.mki 9 (.c (.string ⟨#[115, 108, 105, 99, 101, 115, 46, 77, 97, 120, 70, 117, 110, 99, 58, 32, 101, 109, 112, 116, 121, 32, 108, 105, 115, 116]⟩)))⟩,
 ⟨none, none, .inr (.pan (.s 10))⟩])
 (.skip)))
 (.seq (.region [vM 11 0,
 vP 12 (.ias 2 (.s 11) (vi 0)),
 vP 13 (.ld true 2 (.s 12)),
 vP 5 (.alloc 63 [(.int .i64 0), (.int .i64 0)]),
 ⟨none, none, .inl (.st 2 (.s 5) (.s 13))⟩])
 (.seq (.seq (.region [vP 6 (.mv (vi 1))])
 (.block 0 (.loop k54l0)))
 (.seq (.region [vP 32 (.ld true 2 (.s 5)),
 ⟨none, none, .inl (.st 2 (.s 4) (.s 32))⟩])
 (.ret)))))
def k55 : Cd :=
  .seq (.region [vP 2 (.box 63 2 (.s 0)),
 vP 3 (.box 63 2 (.s 1)),
 vP 4 (.mv (vi 0))])
 (.seq (.seq (.region [vP 5 (.ld true 2 (.s 2)),
 vN 6 79 [(.s 5)],
 vP 7 (.not (.s 6)),
 vM 8 7,
 vU 8 9 (.ld true 2 (.s 3)),
 ⟨some (8, false), some 10, .inr (.fn 79 [(.s 9)])⟩,
 vU 8 11 (.not (.s 10)),
 vP 12 (.pick (.s 8) (.c (.bool true)) (.s 11))])
 (.cond (.s 12) (.seq (.region [vP 4 (.mv (vi 0))])
 (.ret))
 (.skip)))
 (.seq (.region [vF 13 2 0,
 vL 14 1 13,
 vF 15 3 1,
 vL 16 1 15,
 vP 17 (vb .mul 14 16),
 vF 18 3 0,
 vL 19 1 18,
 vF 20 2 1,
 vL 21 1 20,
 vP 22 (vb .mul 19 21),
 vN 23 60 [(.s 17), (.s 22)],
 vM 4 23])
 (.ret)))
def k56l0 : Cd :=
  .seq (.region [vP 9 (vb .lss 8 7)])
 (.seq (.cond (.s 9) (.skip)
 (.exit 0))
 (.seq (.block 1 (.seq (.region [vM 10 8,
 vM 5 10])
 (.seq (.draw [vD (vP 11 (.ld true 2 (.s 3))) 0,
 vD (vM 12 0) 0,
 vD (vM 13 5) 0,
 vD (vI 14 2 12 13) 6,
 vD (vP 15 (.ld true 2 (.s 14))) 14,
 vD (vP 16 (.eq false (.cells [.int, .int]) (.s 11) (.s 15))) 31])
 (.cond (.s 16) (.seq (.region [vM 17 5,
 vM 4 17])
 (.ret))
 (.skip)))))
 (.region [vP 18 (vc .add 8 1),
 vM 8 18])))
def k56 : Cd :=
  .seq (.region [vP 3 (.box 63 2 (.s 1)),
 vP 4 (.mv (vi 0))])
 (.seq (.seq (.region [vM 6 0,
 vP 7 (.len (.s 6)),
 vP 8 (.mv (vi 0))])
 (.block 0 (.loop k56l0)))
 (.seq (.region [vP 4 (.mv (.c (.int .i64 (-1))))])
 (.ret)))
def k57l0 : Cd :=
  .seq (.region [vP 9 (vb .lss 8 7)])
 (.seq (.cond (.s 9) (.skip)
 (.exit 0))
 (.seq (.block 1 (.seq (.region [vM 10 8,
 vM 5 10])
 (.seq (.region [vM 11 1,
 vM 12 0,
 vM 13 5,
 vI 14 2 12 13,
 vP 15 (.ld true 2 (.s 14)),
 ⟨none, some 16, .inr (.val false (.s 11) [(.s 15)])⟩])
 (.cond (.s 16) (.seq (.region [vM 17 5,
 vM 4 17])
 (.ret))
 (.skip)))))
 (.region [vP 18 (vc .add 8 1),
 vM 8 18])))
def k57 : Cd :=
  .seq (.region [vP 4 (.mv (vi 0))])
 (.seq (.seq (.region [vM 6 0,
 vP 7 (.len (.s 6)),
 vP 8 (.mv (vi 0))])
 (.block 0 (.loop k57l0)))
 (.seq (.region [vP 4 (.mv (.c (.int .i64 (-1))))])
 (.ret)))
def k58 : Cd :=
  .seq (.region [vM 5 0,
 vP 6 (.len (.s 5)),
 vM 4 6])
 (.region [vM 7 0,
 vM 8 4,
 vM 9 4,
 vP 10 (.cvi .u64 (.s 9)),
 vN 11 81 [(.s 10)],
 vM 12 1,
 vN 13 80 [(.s 7), (vi 0), (.s 8), (.s 11), (.s 12)]])
def k59 : Cd :=
  .seq (.region [vP 2 (.box 74 3 (.s 0)),
 vP 3 (.box 74 3 (.s 1)),
 vP 4 (.mv (vi 0))])
 (.seq (.region [vF 5 2 0,
 vL 6 1 5,
 vF 7 3 0,
 vL 8 1 7,
 vN 9 60 [(.s 6), (.s 8)],
 vM 4 9])
 (.ret))
def k60 : Cd :=
  .seq (.region [vP 4 (.mv (vi 0))])
 (.seq (.region [vM 7 0,
 vN 8 82 [(.s 7)],
 vM 5 8])
 (.seq (.region [vM 9 1,
 vN 10 82 [(.s 9)],
 vM 6 10])
 (.seq (.seq (.region [vM 11 5])
 (.cond (.s 11) (.seq (.seq (.region [vM 12 6])
 (.cond (.s 12) (.seq (.region [vP 4 (.mv (vi 0))])
 (.ret))
 (.skip)))
 (.seq (.region [vP 4 (.mv (.c (.int .i64 (-1))))])
 (.ret)))
 (.skip)))
 (.seq (.seq (.region [vM 13 6])
 (.cond (.s 13) (.seq (.region [vP 4 (.mv (vi 1))])
 (.ret))
 (.skip)))
 (.seq (.seq (.region [vM 14 0,
 vM 15 1,
 vP 16 (vb .lss 14 15)])
 (.cond (.s 16) (.seq (.region [vP 4 (.mv (.c (.int .i64 (-1))))])
 (.ret))
 (.skip)))
 (.seq (.seq (.region [vM 17 0,
 vM 18 1,
 vP 19 (vb .gtr 17 18)])
 (.cond (.s 19) (.seq (.region [vP 4 (.mv (vi 1))])
 (.ret))
 (.skip)))
 (.seq (.region [vP 4 (.mv (vi 0))])
 (.ret))))))))
def k61 : Cd :=
  .seq (.region [vP 1 (.box 99 1 (.s 0)),
 vP 2 (.mv (.c .nilFunc))])
 (.seq (.region [vP 3 (.mkf (.func 83) [] [(.s 1)]),
 vM 2 3])
 (.ret))
def k62 : Cd :=
  .seq (.region [vP 1 (.box 52 5 (.s 0)),
 vP 2 (.mv (vi 0))])
 (.seq (.seq (.region [vP 3 (.ld true 5 (.s 1)),
 vN 4 84 [(.s 3)],
 vP 5 (.not (.s 4))])
 (.cond (.s 5) (.seq (.region [vP 2 (.mv (vi 61))])
 (.ret))
 (.skip)))
 (.seq (.region [vP 2 (.mv (vi 0))])
 (.ret)))
def k63 : Cd :=
  .seq (.region [vP 3 (.box 50 2 (.s 0)),
 vP 4 (.box 3 1 (.s 1)),
 vP 5 (.box 3 1 (.s 2)),
 vP 6 (.mv (.c (.slice none 0 0))),
 vP 7 (.mv (vi 0))])
 (.seq (.seq (.region [vP 10 (.ld true 2 (.s 3)),
 vL 11 1 4,
 vL 12 1 5,
 vN 13 85 [(.s 10), (.s 11), (.s 12)],
 vM 8 13])
 (.seq (.region [vM 14 8,
 vP 15 (vc .neq 14 0)])
 (.cond (.s 15) (.seq (.region [vM 16 8,
 vP 6 (.mv (.c (.slice none 0 0))),
 vM 7 16])
 (.ret))
 (.skip))))
 (.seq (.region [vP 9 (.alloc 22 [(.slice none 0 0)])])
 (.seq (.region [vP 17 (.ld true 2 (.s 3)),
 vP 18 (.mkf (.func 87) [] [(.s 4), (.s 5), (.s 9)]),
 vN 19 86 [(.s 17), (.s 18)]])
 (.seq (.seq (.region [vL 20 1 9,
 vP 21 (.len (.s 20)),
 vP 22 (vc .eql 21 0)])
 (.cond (.s 22) (.seq (.region [vP 6 (.mv (.c (.slice none 0 0))),
 vP 7 (.mv (vi 25))])
 (.ret))
 (.skip)))
 (.seq (.region [vL 23 1 9,
 vN 24 89 [(.s 23)],
 vM 6 24,
 vP 7 (.mv (vi 0))])
 (.ret))))))
def k64l0 : Cd :=
  .seq (.region [vP 25 (vb .lss 24 23)])
 (.seq (.cond (.s 25) (.skip)
 (.exit 0))
 (.seq (.block 1 (.seq (.region [vI 26 2 22 24,
 vP 27 (.ld true 2 (.s 26)),
 vP 5 (.alloc 140 [(.int .i64 0), (.slice none 0 0)]),
 ⟨none, none, .inl (.st 2 (.s 5) (.s 27))⟩])
 (.seq (.region [vP 28 (.ld true 2 (.s 5)),
 vN 29 91 [(.s 28)],
 vM 6 29])
 (.seq (.region [vM 30 6,
 vP 31 (vc .neq 30 0)])
 (.cond (.s 31) (.seq (.region [vM 32 6,
 vM 2 32])
 (.ret))
 (.skip))))))
 (.region [vP 33 (vc .add 24 1),
 vM 24 33])))
def k64l1 : Cd :=
  .seq (.region [vP 41 (vb .lss 40 39)])
 (.seq (.cond (.s 41) (.skip)
 (.exit 2))
 (.seq (.block 3 (.seq (.region [vI 42 2 38 40,
 vP 43 (.ld true 2 (.s 42)),
 vP 10 (.alloc 140 [(.int .i64 0), (.slice none 0 0)]),
 ⟨none, none, .inl (.st 2 (.s 10) (.s 43))⟩])
 (.seq (.region [vM 44 7,
 vF 45 10 1,
 vL 46 1 45,
 vP 47 (.len (.s 46)),
 vP 48 (vb .mul 44 47),
 vM 7 48])
 (.region [vM 49 8,
 vP 50 (.ld true 2 (.s 10)),
 vN 51 92 [(.s 50)],
 vP 52 (vb .add 49 51),
 vM 8 52]))))
 (.region [vP 53 (vc .add 40 1),
 vM 40 53])))
def k64 : Cd :=
  .seq (.region [vP 1 (.box 50 2 (.s 0)),
 vP 2 (.mv (vi 0))])
 (.seq (.seq (.region [vF 11 1 0,
 vL 12 1 11,
 vN 13 90 [(.s 12)],
 vM 3 13])
 (.seq (.region [vM 14 3,
 vP 15 (vc .neq 14 0)])
 (.cond (.s 15) (.seq (.region [vM 16 3,
 vM 2 16])
 (.ret))
 (.skip))))
 (.seq (.seq (.region [vF 17 1 1,
 vL 18 1 17,
 vP 19 (.len (.s 18)),
 vP 20 (vc .gtr 19 6)])
 (.cond (.s 20) (.seq (.region [vP 2 (.mv (vi 2))])
 (.ret))
 (.skip)))
 (.seq (.seq (.region [vF 21 1 1,
 vL 22 1 21,
 vP 23 (.len (.s 22)),
 vP 24 (.mv (vi 0))])
 (.block 0 (.loop k64l0)))
 (.seq (.draw [vD (vF 34 1 0) 0,
 vD (vL 35 1 34) 1,
 vD (vP 36 (.len (.s 35))) 3,
 vD (vP 7 (.mv (vi 1))) 0,
 vD (vM 8 36) 15])
 (.seq (.seq (.region [vF 37 1 1,
 vL 38 1 37,
 vP 39 (.len (.s 38)),
 vP 40 (.mv (vi 0))])
 (.block 2 (.loop k64l1)))
 (.seq (.seq (.region [vM 54 7,
 vP 55 (vc .gtr 54 3000),
 vM 56 55,
 vU 56 57 (.mv (.s 8)),
 vU 56 58 (vc .gtr 57 400),
 vP 59 (.pick (.s 56) (.c (.bool true)) (.s 58)),
 vM 60 59,
 vU 60 61 (.ld true 2 (.s 1)),
 ⟨some (60, false), some 62, .inr (.fn 65 [(.s 61)])⟩,
 vU 60 63 (.len (.s 62)),
 vU 60 64 (vc .gtr 63 64),
 vP 65 (.pick (.s 60) (.c (.bool true)) (.s 64))])
 (.cond (.s 65) (.seq (.region [vP 2 (.mv (vi 2))])
 (.ret))
 (.skip)))
 (.seq (.region [vP 2 (.mv (vi 0))])
 (.ret))))))))
def k65l0 : Cd :=
  .seq (.region [vP 22 (vb .lss 21 20)])
 (.seq (.cond (.s 22) (.skip)
 (.exit 2))
 (.seq (.block 3 (.seq (.region [vI 23 1 19 21,
 vL 24 1 23,
 vM 7 24])
 (.region [vM 25 7,
 vN 26 93 [(.s 3), (.s 25)]])))
 (.region [vP 27 (vc .add 21 1),
 vM 21 27])))
def k65l1 : Cd :=
  .seq (.region [vP 15 (vb .lss 14 13)])
 (.seq (.cond (.s 15) (.skip)
 (.exit 0))
 (.seq (.block 1 (.seq (.region [vI 16 2 12 14,
 vP 17 (.ld true 2 (.s 16)),
 vP 5 (.alloc 140 [(.int .i64 0), (.slice none 0 0)]),
 ⟨none, none, .inl (.st 2 (.s 5) (.s 17))⟩])
 (.seq (.region [vF 18 5 1,
 vL 19 1 18,
 vP 20 (.len (.s 19)),
 vP 21 (.mv (vi 0))])
 (.block 2 (.loop k65l0)))))
 (.region [vP 28 (vc .add 14 1),
 vM 14 28])))
def k65 : Cd :=
  .seq (.region [vP 1 (.box 50 2 (.s 0)),
 vP 2 (.mv (.c (.slice none 0 0)))])
 (.seq (.region [vP 3 (.alloc 146 [(.int .u64 0), (.int .u64 0), (.int .u64 0), (.int .u64 0), (.int .u64 0), (.int .u64 0), (.int .u64 0), (.int .u64 0), (.int .u64 0), (.int .u64 0), (.int .u64 0), (.int .u64 0), (.int .u64 0), (.int .u64 0), (.int .u64 0), (.int .u64 0), (.int .u64 0), (.int .u64 0), (.int .u64 0), (.int .u64 0), (.int .u64 0), (.int .u64 0), (.int .u64 0), (.int .u64 0), (.int .u64 0), (.int .u64 0), (.int .u64 0), (.int .u64 0), (.int .u64 0), (.int .u64 0), (.int .u64 0), (.int .u64 0), (.int .u64 0)])])
 (.seq (.region [vF 8 1 0,
 vL 9 1 8,
 vN 10 93 [(.s 3), (.s 9)]])
 (.seq (.seq (.region [vF 11 1 1,
 vL 12 1 11,
 vP 13 (.len (.s 12)),
 vP 14 (.mv (vi 0))])
 (.block 0 (.loop k65l1)))
 (.seq (.region [vN 29 94 [(.s 3)],
 vM 2 29])
 (.ret)))))
def k66 : Cd :=
  .seq (.region [vP 3 (.mv (.c (.bool false)))])
 (.seq (.region [vL 4 1 1,
 vM 5 0,
 vN 6 67 [(.s 4), (.s 5)],
 vP 7 (.not (.s 6)),
 vM 3 7])
 (.ret))
def k67 : Cd :=
  .seq (.region [vP 4 (.mv (.c (.bool false)))])
 (.seq (.region [vM 5 0,
 vM 6 1,
 vN 7 71 [(.s 5), (.s 6)],
 vP 8 (vc .geq 7 0),
 vM 4 8])
 (.ret))
def k68 : Cd :=
  .seq (.region [vP 4 (.mv (.c (.bool false)))])
 (.seq (.region [vM 5 0,
 vM 6 1,
 vN 7 95 [(.s 5), (.s 6)],
 vP 8 (vc .geq 7 0),
 vM 4 8])
 (.ret))
def k69 : Cd :=
  .seq (.region [vP 2 (.box 52 5 (.s 0)),
 vP 3 (.mv (.c (.bool false)))])
 (.seq (.region [vL 4 1 1,
 vF 5 2 2,
 vL 6 1 5,
 ⟨none, some 7, .inr (.val false (.s 4) [(.s 6)])⟩,
 vM 3 7])
 (.ret))
def k70 : Cd :=
  .seq (.region [vP 1 (.box 50 2 (.s 0)),
 vP 2 (.mv (.c (.slice none 0 0))),
 vP 3 (.mv (vi 0))])
 (.seq (.seq (.region [vP 6 (.ld true 2 (.s 1)),
 vN 7 64 [(.s 6)],
 vM 4 7])
 (.seq (.region [vM 8 4,
 vP 9 (vc .neq 8 0)])
 (.cond (.s 9) (.seq (.region [vM 10 4,
 vP 2 (.mv (.c (.slice none 0 0))),
 vM 3 10])
 (.ret))
 (.skip))))
 (.seq (.region [vP 5 (.alloc 77 [(.slice none 0 0)])])
 (.seq (.region [vP 11 (.ld true 2 (.s 1)),
 vP 12 (.mkf (.func 96) [] [(.s 5)]),
 vN 13 86 [(.s 11), (.s 12)]])
 (.seq (.region [vL 14 1 5,
 vM 2 14,
 vP 3 (.mv (vi 0))])
 (.ret)))))
def k71l0 : Cd :=
  .seq (.region [vP 9 (vb .lss 8 7)])
 (.seq (.cond (.s 9) (.skip)
 (.exit 0))
 (.seq (.block 1 (.seq (.region [vM 10 8,
 vM 5 10])
 (.seq (.region [vM 11 1,
 vM 12 0,
 vM 13 5,
 vI 14 1 12 13,
 vL 15 1 14,
 vP 16 (vb .eql 11 15)])
 (.cond (.s 16) (.seq (.region [vM 17 5,
 vM 4 17])
 (.ret))
 (.skip)))))
 (.region [vP 18 (vc .add 8 1),
 vM 8 18])))
def k71 : Cd :=
  .seq (.region [vP 4 (.mv (vi 0))])
 (.seq (.seq (.region [vM 6 0,
 vP 7 (.len (.s 6)),
 vP 8 (.mv (vi 0))])
 (.block 0 (.loop k71l0)))
 (.seq (.region [vP 4 (.mv (.c (.int .i64 (-1))))])
 (.ret)))
def k72l0 : Cd :=
  .seq (.region [vP 24 (vb .lss 23 22)])
 (.seq (.cond (.s 24) (.skip)
 (.exit 0))
 (.seq (.block 1 (.seq (.region [vM 25 23,
 vI 26 2 21 23,
 vP 27 (.ld true 2 (.s 26)),
 vP 8 (.alloc 140 [(.int .i64 0), (.slice none 0 0)]),
 vM 7 25,
 ⟨none, none, .inl (.st 2 (.s 8) (.s 27))⟩])
 (.seq (.draw [vD (vM 28 1) 0,
 vD (vM 29 7) 0,
 vD (vI 30 1 28 29) 3,
 vD (vL 31 1 30) 7,
 vD (vF 32 8 1) 0,
 vD (vL 33 1 32) 16,
 vD (vP 34 (.len (.s 33))) 48,
 vD (vP 35 (vc .sub 34 1)) 112,
 vD (vN 36 97 [(.s 31), (vi 0), (.s 35)]) 255,
 vD (vP 37 (.not (.s 36))) 511])
 (.cond (.s 37) (.seq (.region [vP 4 (.mv (.c (.slice none 0 0))),
 vP 5 (.mv (vi 51))])
 (.ret))
 (.skip)))))
 (.region [vP 38 (vc .add 23 1),
 vM 23 38])))
def k72 : Cd :=
  .seq (.region [vP 2 (.box 50 2 (.s 0)),
 vP 4 (.mv (.c (.slice none 0 0))),
 vP 5 (.mv (vi 0))])
 (.seq (.seq (.region [vP 9 (.ld true 2 (.s 2)),
 vN 10 64 [(.s 9)],
 vM 6 10])
 (.seq (.region [vM 11 6,
 vP 12 (vc .neq 11 0)])
 (.cond (.s 12) (.seq (.region [vM 13 6,
 vP 4 (.mv (.c (.slice none 0 0))),
 vM 5 13])
 (.ret))
 (.skip))))
 (.seq (.seq (.region [vM 14 1,
 vP 15 (.len (.s 14)),
 vF 16 2 1,
 vL 17 1 16,
 vP 18 (.len (.s 17)),
 vP 19 (vb .neq 15 18)])
 (.cond (.s 19) (.seq (.region [vP 4 (.mv (.c (.slice none 0 0))),
 vP 5 (.mv (vi 51))])
 (.ret))
 (.skip)))
 (.seq (.seq (.region [vF 20 2 1,
 vL 21 1 20,
 vP 22 (.len (.s 21)),
 vP 23 (.mv (vi 0))])
 (.block 0 (.loop k72l0)))
 (.seq (.region [vP 39 (.ld true 2 (.s 2)),
 vM 40 1,
 vN 41 98 [(.s 39), (.s 40)],
 vM 4 41,
 vP 5 (.mv (vi 0))])
 (.ret)))))
def k73 : Cd :=
  .seq (.region [vP 2 (.alloc 119 [(.slice none 0 0), (.slice none 0 0)]),
 vP 3 (.mv (vi 0))])
 (.seq (.seq (.region [vM 7 0,
 vN 8 90 [(.s 7)],
 vM 4 8])
 (.seq (.region [vM 9 4,
 vP 10 (vc .neq 9 0)])
 (.cond (.s 10) (.seq (.region [vP 11 (.bld [(.slice none 0 0), (.slice none 0 0)] []),
 vM 12 4,
 ⟨none, none, .inl (.st 2 (.s 2) (.s 11))⟩,
 vM 3 12])
 (.ret))
 (.skip))))
 (.seq (.region [vM 14 0,
 vN 15 100 [(.s 14), (.f 101)],
 vN 16 99 [(.s 15)],
 vM 13 16,
 vP 17 (.ex (.s 13) 0),
 vP 18 (.ex (.s 13) 1),
 vP 5 (.alloc 152 [(.slice none 0 0), (.slice none 0 0)]),
 ⟨none, none, .inl (.st 2 (.s 5) (.s 17))⟩,
 vM 6 18])
 (.seq (.seq (.region [vM 19 6,
 vP 20 (.not (.s 19))])
 (.cond (.s 20) (.seq (.region [vP 21 (.bld [(.slice none 0 0), (.slice none 0 0)] []),
 ⟨none, none, .inl (.st 2 (.s 2) (.s 21))⟩,
 vP 3 (.mv (vi 25))])
 (.ret))
 (.skip)))
 (.seq (.region [vF 22 5 0,
 vP 23 (.ld true 2 (.s 22)),
 ⟨none, none, .inl (.st 2 (.s 2) (.s 23))⟩,
 vP 3 (.mv (vi 0))])
 (.ret)))))
def k74l0 : Cd :=
  .seq (.seq (.region [vM 34 8,
 vM 35 7,
 vP 36 (.len (.s 35)),
 vP 37 (vb .lss 34 36)])
 (.cond (.s 37) (.skip)
 (.exit 0)))
 (.block 1 (.draw [vD (vM 38 8) 0,
 vD (vM 39 7) 0,
 vD (vM 40 8) 0,
 vD (vP 41 (.slc 1 (.s 39) (some (.s 40)) none none)) 6,
 vD (vM 42 7) 0,
 vD (vM 43 8) 0,
 vD (vP 44 (.slc 1 (.s 42) none (some (.s 43)) none)) 48,
 ⟨vP 45 (.cpy 1 (.s 41) (.s 44)), (some [.at 7]), [], 126, false⟩,
 vD (vP 46 (vb .add 38 45)) 255,
 vD (vM 8 46) 511]))
def k74 : Cd :=
  .seq (.region [vP 4 (.mv (.c (.slice none 0 0)))])
 (.seq (.seq (.region [vM 9 1,
 vP 10 (vc .lss 9 0)])
 (.cond (.s 10) (.region [⟨none, some 11, .inl (.mki 9 (.c (.string ⟨#[99, 97, 110, 110, 111, 116, 32, 98, 101, 32, 110, 101, 103, 97, 116, 105, 118, 101]⟩)))⟩,
 ⟨none, none, .inr (.pan (.s 11))⟩])
 (.skip)))
 (.seq (.region [vM 13 0,
 vP 14 (.len (.s 13)),
 vP 15 (.cvi .u64 (.s 14)),
 vM 16 1,
 vP 17 (.cvi .u64 (.s 16)),
 vN 18 102 [(.s 15), (.s 17)],
 vM 12 18,
 vP 19 (.ex (.s 12) 0),
 vP 20 (.ex (.s 12) 1),
 vM 5 19,
 vM 6 20])
 (.seq (.seq (.region [vM 21 5,
 vP 22 (.bin .gtr (.s 21) (.c (.int .u64 0))),
 vM 23 22,
 vU 23 24 (.mv (.s 6)),
 vU 23 25 (.bin .gtr (.s 24) (.c (.int .u64 9223372036854775807))),
 vP 26 (.pick (.s 23) (.c (.bool true)) (.s 25))])
 (.cond (.s 26) (.region [⟨none, some 27, .inl (.mki 9 (.c (.string ⟨#[116, 104, 101, 32, 114, 101, 115, 117, 108, 116, 32, 111, 102, 32, 40, 108, 101, 110, 40, 120, 41, 32, 42, 32, 99, 111, 117, 110, 116, 41, 32, 111, 118, 101, 114, 102, 108, 111, 119, 115]⟩)))⟩,
 ⟨none, none, .inr (.pan (.s 27))⟩])
 (.skip)))
 (.seq (.region [vM 28 6,
 vP 29 (.cvi .i64 (.s 28)),
 vP 30 (.mks 3 1 8 [(.int .i64 0)] (.s 29) (.s 29)),
 vM 7 30])
 (.seq (.region [vM 31 7,
 vM 32 0,
 vP 33 (.cpy 1 (.s 31) (.s 32)),
 vM 8 33])
 (.seq (.block 0 (.loop k74l0))
 (.seq (.region [vM 47 7,
 vM 4 47])
 (.ret))))))))
def k75 : Cd :=
  .region [vP 4 (.ld true 6 (.s 1)),
 vL 5 1 2,
 vF 6 1 0,
 vF 7 6 3,
 vL 8 1 7,
 vP 9 (.bld [(.int .i64 0), (.int .i64 0), (.int .i64 0), (.bool false)] [(2, 1, (.s 8))]),
 vP 10 (.bs 115 4 1 [(.int .i64 0), (.int .i64 0), (.int .i64 0), (.bool false)] [(0, (.s 9))]),
 vM 11 0,
 vN 12 76 [(.s 4), (.s 5), (.s 10), (.s 11)]]
def k76l0 : Cd :=
  .seq (.region [vP 22 (vb .lss 21 20)])
 (.seq (.cond (.s 22) (.skip)
 (.exit 0))
 (.seq (.block 1 (.seq (.region [vI 23 4 19 21,
 vP 24 (.ldv true 4 (.s 23)),
 vP 10 (.alloc 115 [(.int .i64 0), (.int .i64 0), (.int .i64 0), (.bool false)]),
 ⟨none, none, .inl (.st 4 (.s 10) (.s 24))⟩])
 (.seq (.draw [vD (vP 25 (.ld true 6 (.s 4))) 0,
 vD (vP 26 (.ldv true 4 (.s 10))) 0,
 vD (vM 27 2) 0,
 ⟨vN 28 103 [(.s 25), (.s 26), (.s 27)], none, [], 7, false⟩,
 vD (vM 29 28) 15,
 ⟨vT 29 30 (.ld true 6 (.s 4)), some [], [.fr 35, .fr 36, .at 2], 31, false⟩,
 vD (vT 29 31 (.mv (.s 1))) 31,
 ⟨vT 29 32 (.slc 1 (.s 31) (some (vi 1)) none none), some [], [.fr 35, .fr 36, .at 2], 95, false⟩,
 vD (vT 29 33 (.mv (.s 2))) 31,
 vD (vT 29 34 (.ldv true 4 (.s 10))) 31,
 ⟨vT 29 35 (.bs 115 4 1 [(.int .i64 0), (.int .i64 0), (.int .i64 0), (.bool false)] [(0, (.s 34))]), (some [.fr 35]), [], 543, false⟩,
 ⟨vT 29 36 (.apl 115 4 32 (.s 33) (.s 35)), (some [.fr 36, .at 2]), [], 1823, false⟩,
 vD (vT 29 37 (.mv (.s 3))) 31,
 ⟨⟨some (29, true), some 38, .inr (.fn 76 [(.s 30), (.s 32), (.s 36), (.s 37)])⟩, none, [], 8191, false⟩,
 vD (vT 29 39 (.not (.s 38))) 16383,
 vD (vP 40 (.pick (.s 29) (.s 39) (.c (.bool false)))) 32767])
 (.cond (.s 40) (.seq (.region [vP 8 (.mv (.c (.bool false)))])
 (.ret))
 (.skip)))))
 (.region [vP 41 (vc .add 21 1),
 vM 21 41])))
def k76 : Cd :=
  .seq (.region [vP 4 (.box 87 6 (.s 0)),
 vP 8 (.mv (.c (.bool false)))])
 (.seq (.seq (.region [vM 11 1,
 vP 12 (.len (.s 11)),
 vP 13 (vc .eql 12 0)])
 (.cond (.s 13) (.seq (.region [vM 14 3,
 vM 15 2,
 ⟨none, some 16, .inr (.val false (.s 14) [(.s 15)])⟩,
 vM 8 16])
 (.ret))
 (.skip)))
 (.seq (.seq (.region [vM 17 1,
 vP 18 (.ias 1 (.s 17) (vi 0)),
 vL 19 1 18,
 vP 20 (.len (.s 19)),
 vP 21 (.mv (vi 0))])
 (.block 0 (.loop k76l0)))
 (.seq (.region [vP 8 (.mv (.c (.bool true)))])
 (.ret))))
def k77 : Cd :=
  .seq (.region [vP 2 (.mv (.c (.bool false)))])
 (.seq (.region [vM 3 0,
 vP 4 (.len (.s 3)),
 vN 5 42 [(.s 4), (vi 1), (vi 400)],
 vM 6 5,
 vT 6 7 (.mv (.s 0)),
 ⟨some (6, true), some 8, .inr (.fn 104 [(.s 7), (.f 105)])⟩,
 vT 6 9 (.not (.s 8)),
 vP 10 (.pick (.s 6) (.s 9) (.c (.bool false))),
 vM 2 10])
 (.ret))
def k78l0 : Cd :=
  .seq (.region [vP 14 (vb .lss 13 12)])
 (.seq (.cond (.s 14) (.skip)
 (.exit 0))
 (.seq (.block 1 (.seq (.region [vI 15 1 11 13,
 vL 16 1 15,
 vM 6 16])
 (.region [vM 17 4,
 vM 18 6,
 vP 19 (vb .add 17 18),
 vM 4 19])))
 (.region [vP 20 (vc .add 13 1),
 vM 13 20])))
def k78 : Cd :=
  .seq (.region [vP 2 (.alloc 63 [(.int .i64 0), (.int .i64 0)]),
 vP 3 (.mv (vi 0))])
 (.seq (.seq (.region [vM 7 0,
 vN 8 77 [(.s 7)],
 vP 9 (.not (.s 8))])
 (.cond (.s 9) (.seq (.region [vP 10 (.bld [(.int .i64 0), (.int .i64 0)] []),
 ⟨none, none, .inl (.st 2 (.s 2) (.s 10))⟩,
 vP 3 (.mv (vi 62))])
 (.ret))
 (.skip)))
 (.seq (.region [vP 4 (.mv (vi 0))])
 (.seq (.seq (.region [vM 11 0,
 vP 12 (.len (.s 11)),
 vP 13 (.mv (vi 0))])
 (.block 0 (.loop k78l0)))
 (.seq (.region [vM 21 4,
 vM 22 0,
 vP 23 (.len (.s 22)),
 vN 24 106 [(.s 21), (.s 23)],
 vP 25 (.ex (.s 24) 0),
 vP 26 (.ex (.s 24) 1),
 ⟨none, none, .inl (.st 2 (.s 2) (.s 25))⟩,
 vM 3 26])
 (.ret)))))
def k79 : Cd :=
  .seq (.region [vP 1 (.box 63 2 (.s 0)),
 vP 2 (.mv (.c (.bool false)))])
 (.seq (.region [vF 3 1 0,
 vL 4 1 3,
 vN 5 42 [(.s 4), (.c (.int .i64 (-1000000000))), (vi 1000000000)],
 vM 6 5,
 vT 6 7 (.fa (.s 1) 1),
 vT 6 8 (.ld false 1 (.s 7)),
 ⟨some (6, true), some 9, .inr (.fn 42 [(.s 8), (vi 1), (vi 1000000000)])⟩,
 vP 10 (.pick (.s 6) (.s 9) (.c (.bool false))),
 vM 2 10])
 (.ret))
def k80l0 : Cd :=
  .block 1 (.seq (.region [vM 21 2,
 vM 22 1,
 vP 23 (vb .sub 21 22),
 vM 12 23])
 (.seq (.seq (.region [vM 24 12,
 vP 25 (vc .leq 24 12)])
 (.cond (.s 25) (.seq (.region [vM 26 0,
 vM 27 1,
 vM 28 2,
 vM 29 4,
 vN 30 107 [(.s 26), (.s 27), (.s 28), (.s 29)]])
 (.ret))
 (.skip)))
 (.seq (.seq (.region [vM 31 3,
 vP 32 (vc .eql 31 0)])
 (.cond (.s 32) (.seq (.region [vM 33 0,
 vM 34 1,
 vM 35 2,
 vM 36 4,
 vN 37 108 [(.s 33), (.s 34), (.s 35), (.s 36)]])
 (.ret))
 (.skip)))
 (.seq (.seq (.region [vM 38 10,
 vP 39 (.not (.s 38))])
 (.cond (.s 39) (.seq (.region [vM 40 0,
 vM 41 1,
 vM 42 2,
 vM 43 4,
 vN 44 109 [(.s 40), (.s 41), (.s 42), (.s 43)]])
 (.region [vM 45 3,
 vP 46 (vc .sub 45 1),
 vM 3 46]))
 (.skip)))
 (.seq (.region [vM 48 0,
 vM 49 1,
 vM 50 2,
 vM 51 4,
 vN 52 110 [(.s 48), (.s 49), (.s 50), (.s 51)],
 vM 47 52,
 vP 53 (.ex (.s 47) 0),
 vP 54 (.ex (.s 47) 1),
 vM 13 53,
 vM 14 54])
 (.seq (.seq (.region [vM 55 14,
 vP 56 (vc .eql 55 2)])
 (.cond (.s 56) (.seq (.region [vM 57 0,
 vM 58 1,
 vM 59 2,
 vM 60 4,
 vN 61 111 [(.s 57), (.s 58), (.s 59), (.s 60)]])
 (.seq (.region [vM 62 2,
 vP 63 (vc .sub 62 1),
 vM 64 13,
 vM 65 1,
 vP 66 (vb .sub 64 65),
 vP 67 (vb .sub 63 66),
 vM 13 67])
 (.region [vP 14 (.mv (vi 1))])))
 (.skip)))
 (.seq (.seq (.region [vM 68 10,
 vM 69 68,
 vT 69 70 (.mv (.s 11)),
 vP 71 (.pick (.s 69) (.s 70) (.c (.bool false))),
 vM 72 71,
 vT 72 73 (.mv (.s 14)),
 vT 72 74 (vc .eql 73 1),
 vP 75 (.pick (.s 72) (.s 74) (.c (.bool false)))])
 (.cond (.s 75) (.seq (.region [vM 76 0,
 vM 77 1,
 vM 78 2,
 vM 79 4,
 vN 80 112 [(.s 76), (.s 77), (.s 78), (.s 79)]])
 (.cond (.s 80) (.ret)
 (.skip)))
 (.skip)))
 (.seq (.seq (.draw [vD (vM 81 1) 0,
 vD (vP 82 (vc .gtr 81 0)) 1,
 vD (vM 83 82) 3,
 vD (vT 83 84 (.mv (.s 4))) 7,
 vD (vT 83 85 (.mv (.s 0))) 7,
 vD (vT 83 86 (.mv (.s 1))) 7,
 vD (vT 83 87 (vc .sub 86 1)) 39,
 vD (vT 83 88 (.ias 3 (.s 85) (.s 87))) 119,
 vD (vT 83 89 (.ld true 3 (.s 88))) 247,
 vD (vT 83 90 (.mv (.s 0))) 7,
 vD (vT 83 91 (.mv (.s 13))) 7,
 vD (vT 83 92 (.ias 3 (.s 90) (.s 91))) 1543,
 vD (vT 83 93 (.ld true 3 (.s 92))) 3591,
 ⟨⟨some (83, true), some 94, .inr (.val true (.s 84) [(.s 89), (.s 93)])⟩, some [], [], 8191, false⟩,
 vD (vT 83 95 (vc .lss 94 0)) 16383,
 vD (vT 83 96 (.not (.s 95))) 32767,
 vD (vP 97 (.pick (.s 83) (.s 96) (.c (.bool false)))) 65535])
 (.cond (.s 97) (.seq (.region [vM 98 0,
 vM 99 1,
 vM 100 2,
 vM 101 13,
 vM 102 4,
 vN 103 113 [(.s 98), (.s 99), (.s 100), (.s 101), (.s 102)],
 vM 15 103])
 (.seq (.region [vM 104 15,
 vM 1 104])
 (.exit 1)))
 (.skip)))
 (.seq (.region [vM 106 0,
 vM 107 1,
 vM 108 2,
 vM 109 13,
 vM 110 4,
 vN 111 114 [(.s 106), (.s 107), (.s 108), (.s 109), (.s 110)],
 vM 105 111,
 vP 112 (.ex (.s 105) 0),
 vP 113 (.ex (.s 105) 1),
 vM 16 112,
 vM 17 113])
 (.seq (.region [vM 114 17,
 vM 11 114])
 (.seq (.region [vM 115 16,
 vM 116 1,
 vP 117 (vb .sub 115 116),
 vM 118 2,
 vM 119 16,
 vP 120 (vb .sub 118 119),
 vM 18 117,
 vM 19 120])
 (.seq (.region [vM 121 12,
 vP 122 (vc .quo 121 8),
 vM 20 122])
 (.seq (.region [vM 123 18,
 vM 124 19,
 vP 125 (vb .lss 123 124)])
 (.cond (.s 125) (.seq (.region [vM 126 18,
 vM 127 20,
 vP 128 (vb .geq 126 127),
 vM 10 128])
 (.seq (.region [vM 129 0,
 vM 130 1,
 vM 131 16,
 vM 132 3,
 vM 133 4,
 vN 134 80 [(.s 129), (.s 130), (.s 131), (.s 132), (.s 133)]])
 (.region [vM 135 16,
 vP 136 (vc .add 135 1),
 vM 1 136])))
 (.seq (.region [vM 137 19,
 vM 138 20,
 vP 139 (vb .geq 137 138),
 vM 10 139])
 (.seq (.region [vM 140 0,
 vM 141 16,
 vP 142 (vc .add 141 1),
 vM 143 2,
 vM 144 3,
 vM 145 4,
 vN 146 80 [(.s 140), (.s 142), (.s 143), (.s 144), (.s 145)]])
 (.region [vM 147 16,
 vM 2 147])))))))))))))))))
def k80 : Cd :=
  .seq (.region [vP 10 (.mv (.c (.bool true)))])
 (.seq (.region [vP 11 (.mv (.c (.bool true)))])
 (.block 0 (.loop k80l0)))
def k81 : Cd :=
  .seq (.region [vP 2 (.mv (vi 0))])
 (.seq (.cond (.c (.bool false)) (.seq (.region [vM 3 0,
 vP 4 (.cvi .u32 (.s 3)),
 vN 5 115 [(.s 4)],
 vM 2 5])
 (.ret))
 (.skip))
 (.seq (.region [vM 6 0,
 vN 7 116 [(.s 6)],
 vM 2 7])
 (.ret)))
def k82 : Cd :=
  .seq (.region [vP 2 (.mv (.c (.bool false)))])
 (.seq (.region [vM 3 0,
 vM 4 0,
 vP 5 (vb .neq 3 4),
 vM 2 5])
 (.ret))
def k83l0 : Cd :=
  .seq (.region [vP 8 (vb .lss 7 6)])
 (.seq (.cond (.s 8) (.skip)
 (.exit 0))
 (.seq (.block 1 (.seq (.region [vI 9 3 5 7,
 vP 10 (.ld true 3 (.s 9)),
 vP 4 (.alloc 74 [(.int .i64 0), (.int .i64 0), (.int .i64 0)]),
 ⟨none, none, .inl (.st 3 (.s 4) (.s 10))⟩])
 (.seq (.region [vM 11 0,
 vP 12 (.ld true 3 (.s 4)),
 ⟨none, some 13, .inr (.val false (.s 11) [(.s 12)])⟩,
 vP 14 (.not (.s 13))])
 (.cond (.s 14) (.ret)
 (.skip)))))
 (.region [vP 15 (vc .add 7 1),
 vM 7 15])))
def k83 : Cd :=
  .seq (.region [vL 5 1 1,
 vP 6 (.len (.s 5)),
 vP 7 (.mv (vi 0))])
 (.block 0 (.loop k83l0))
def k84 : Cd :=
  .seq (.region [vP 1 (.box 52 5 (.s 0)),
 vP 2 (.mv (.c (.bool false)))])
 (.seq (.region [vF 4 1 0,
 vL 5 1 4,
 vN 6 117 [(.s 5), (vi 1), (vi 99999)],
 vM 7 6,
 vT 7 8 (.fa (.s 1) 1),
 vT 7 9 (.ld false 1 (.s 8)),
 ⟨some (7, true), some 10, .inr (.fn 117 [(.s 9), (vi 0), (vi 99)])⟩,
 vP 11 (.pick (.s 7) (.s 10) (.c (.bool false))),
 vM 12 11,
 vT 12 13 (.fa (.s 1) 2),
 vT 12 14 (.ld false 1 (.s 13)),
 ⟨some (12, true), some 15, .inr (.fn 117 [(.s 14), (vi 0), (vi 2048)])⟩,
 vP 16 (.pick (.s 12) (.s 15) (.c (.bool false))),
 vM 3 16])
 (.seq (.region [vM 17 3,
 vM 18 17,
 vT 18 19 (.fa (.s 1) 3),
 vT 18 20 (.ld false 1 (.s 19)),
 vT 18 21 (.fa (.s 1) 4),
 vT 18 22 (.ld false 1 (.s 21)),
 ⟨some (18, true), some 23, .inr (.fn 117 [(.s 20), (.c (.int .i64 (-100000))), (.s 22)])⟩,
 vP 24 (.pick (.s 18) (.s 23) (.c (.bool false))),
 vM 25 24,
 vT 25 26 (.fa (.s 1) 4),
 vT 25 27 (.ld false 1 (.s 26)),
 vT 25 28 (vc .leq 27 100000),
 vP 29 (.pick (.s 25) (.s 28) (.c (.bool false))),
 vM 2 29])
 (.ret)))
def k85 : Cd :=
  .seq (.region [vP 3 (.box 50 2 (.s 0)),
 vP 6 (.mv (vi 0))])
 (.seq (.seq (.region [vP 9 (.ld true 2 (.s 3)),
 vN 10 64 [(.s 9)],
 vM 7 10])
 (.seq (.region [vM 11 7,
 vP 12 (vc .neq 11 0)])
 (.cond (.s 12) (.seq (.region [vM 13 7,
 vM 6 13])
 (.ret))
 (.skip))))
 (.seq (.region [vP 14 (.ld true 2 (.s 3)),
 vN 15 65 [(.s 14)],
 vM 8 15])
 (.seq (.seq (.region [vM 16 8,
 vM 17 1,
 vN 18 67 [(.s 16), (.s 17)],
 vP 19 (.not (.s 18)),
 vM 20 19,
 vU 20 21 (.mv (.s 8)),
 vU 20 22 (.mv (.s 2)),
 ⟨some (20, false), some 23, .inr (.fn 67 [(.s 21), (.s 22)])⟩,
 vU 20 24 (.not (.s 23)),
 vP 25 (.pick (.s 20) (.c (.bool true)) (.s 24))])
 (.cond (.s 25) (.seq (.region [vP 6 (.mv (vi 3))])
 (.ret))
 (.skip)))
 (.seq (.region [vP 6 (.mv (vi 0))])
 (.ret)))))
def k86 : Cd :=
  .seq (.region [vP 2 (.box 50 2 (.s 0)),
 vP 3 (.box 136 1 (.s 1))])
 (.seq (.region [vP 4 (.alloc 175 [.nilFunc])])
 (.seq (.region [vP 5 (.mkf (.func 118) [] [(.s 2), (.s 3), (.s 4)]),
 ⟨none, none, .inl (.st 1 (.s 4) (.s 5))⟩])
 (.region [vL 6 1 4,
 ⟨none, some 7, .inr (.val false (.s 6) [(.c (.slice none 0 0))])⟩])))
def k87 : Cd :=
  .seq (.region [vP 7 (.mv (.c (.bool false)))])
 (.seq (.region [vM 9 1,
 vL 10 1 2,
 vL 11 1 3,
 vN 12 88 [(.s 9), (.s 10), (.s 11)],
 vP 8 (.alloc 40 [(.int .i64 0), (.int .i64 0)]),
 ⟨none, none, .inl (.st 2 (.s 8) (.s 12))⟩])
 (.seq (.region [vL 13 1 4,
 vP 14 (.ld true 2 (.s 8)),
 vP 15 (.bs 40 2 1 [(.int .i64 0), (.int .i64 0)] [(0, (.s 14))]),
 vP 16 (.app 40 2 16 (.s 13) (.s 15)),
 ⟨none, none, .inl (.st 1 (.s 4) (.s 16))⟩])
 (.seq (.region [vL 17 1 2,
 vL 18 1 3,
 vP 19 (vb .neq 17 18),
 vM 20 19,
 vT 20 21 (.ld true 2 (.s 8)),
 vT 20 22 (.ld true 2 (.g 0)),
 vT 20 23 (.eq true (.cells [.int, .int]) (.s 21) (.s 22)),
 vP 24 (.pick (.s 20) (.s 23) (.c (.bool false))),
 vM 7 24])
 (.ret))))
def k88 : Cd :=
  .seq (.region [vP 6 (.alloc 40 [(.int .i64 0), (.int .i64 0)])])
 (.seq (.seq (.region [vM 10 1,
 vM 11 2,
 vP 12 (vb .eql 10 11)])
 (.cond (.s 12) (.seq (.region [vP 13 (.bld [(.int .i64 0), (.int .i64 0)] []),
 ⟨none, none, .inl (.st 2 (.s 6) (.s 13))⟩])
 (.ret))
 (.skip)))
 (.seq (.region [vM 15 0,
 vM 16 1,
 vM 17 2,
 vN 18 121 [(.s 15), (.s 16), (.s 17)],
 vM 14 18,
 vP 19 (.ex (.s 14) 0),
 vP 20 (.ex (.s 14) 1),
 vP 21 (.ex (.s 14) 2),
 vM 7 19,
 vM 8 20,
 vM 9 21])
 (.seq (.seq (.region [vM 22 9,
 vP 23 (vc .neq 22 0)])
 (.cond (.s 23) (.seq (.region [vP 24 (.ld true 2 (.g 0)),
 ⟨none, none, .inl (.st 2 (.s 6) (.s 24))⟩])
 (.ret))
 (.skip)))
 (.seq (.region [vM 25 7,
 vM 26 8,
 vP 27 (.bld [(.int .i64 0), (.int .i64 0)] [(0, 1, (.s 25)), (1, 1, (.s 26))]),
 ⟨none, none, .inl (.st 2 (.s 6) (.s 27))⟩])
 (.ret)))))
def k89l0 : Cd :=
  .seq (.region [vP 12 (vb .lss 11 10)])
 (.seq (.cond (.s 12) (.skip)
 (.exit 0))
 (.seq (.block 1 (.seq (.region [vI 13 2 9 11,
 vP 14 (.ld true 2 (.s 13)),
 vP 5 (.alloc 40 [(.int .i64 0), (.int .i64 0)]),
 ⟨none, none, .inl (.st 2 (.s 5) (.s 14))⟩])
 (.seq (.region [vM 15 3,
 vP 16 (.len (.s 15)),
 vP 17 (vc .sub 16 1),
 vM 6 17])
 (.seq (.draw [vD (vM 18 6) 0,
 vD (vP 19 (vc .geq 18 0)) 1,
 vD (vM 20 19) 3,
 vD (vT 20 21 (.fa (.s 5) 0)) 7,
 vD (vT 20 22 (.ld false 1 (.s 21))) 15,
 vD (vT 20 23 (.mv (.s 3))) 7,
 vD (vT 20 24 (.mv (.s 6))) 7,
 vD (vT 20 25 (.ias 2 (.s 23) (.s 24))) 103,
 vD (vT 20 26 (.fa (.s 25) 1)) 231,
 vD (vT 20 27 (.ld false 1 (.s 26))) 487,
 vD (vT 20 28 (vc .add 27 1)) 999,
 vD (vT 20 29 (vb .leq 22 28)) 2047,
 vD (vP 30 (.pick (.s 20) (.s 29) (.c (.bool false)))) 4095])
 (.cond (.s 30) (.draw [vD (vM 31 3) 0,
 vD (vM 32 6) 0,
 vD (vM 33 3) 0,
 vD (vM 34 6) 0,
 vD (vI 35 2 33 34) 12,
 vD (vF 36 35 1) 28,
 vD (vL 37 1 36) 60,
 vD (vF 38 5 1) 0,
 vD (vL 39 1 38) 128,
 vD (vP 40 (.mm true (.s 37) (.s 39))) 508,
 vD (vI 41 2 31 32) 1023,
 vD (vF 42 41 1) 2047,
 ⟨⟨none, none, .inl (.st 1 (.s 42) (.s 40))⟩, (some [.at 3]), [], 4095, false⟩])
 (.region [vM 43 3,
 vP 44 (.ld true 2 (.s 5)),
 vP 45 (.bs 40 2 1 [(.int .i64 0), (.int .i64 0)] [(0, (.s 44))]),
 vP 46 (.app 40 2 16 (.s 43) (.s 45)),
 vM 3 46]))))))
 (.region [vP 47 (vc .add 11 1),
 vM 11 47])))
def k89 : Cd :=
  .seq (.region [vP 2 (.mv (.c (.slice none 0 0)))])
 (.seq (.region [vM 7 0,
 vN 8 122 [(.s 7), (.f 123)]])
 (.seq (.region [vP 3 (.mv (.c (.slice none 0 0)))])
 (.seq (.seq (.region [vM 9 0,
 vP 10 (.len (.s 9)),
 vP 11 (.mv (vi 0))])
 (.block 0 (.loop k89l0)))
 (.seq (.region [vM 48 3,
 vM 2 48])
 (.ret)))))
def k90l0 : Cd :=
  .seq (.region [vP 12 (vb .lss 11 10)])
 (.seq (.cond (.s 12) (.skip)
 (.exit 0))
 (.seq (.block 1 (.seq (.region [vI 13 5 9 11,
 vP 14 (.ld true 5 (.s 13)),
 vP 4 (.alloc 46 [(.int .i64 0), (.int .i64 0), (.int .i64 0), (.int .i64 0), (.int .i64 0)]),
 ⟨none, none, .inl (.st 5 (.s 4) (.s 14))⟩])
 (.seq (.region [vP 15 (.ld true 5 (.s 4)),
 vN 16 124 [(.s 15)],
 vM 5 16])
 (.seq (.region [vM 17 5,
 vP 18 (vc .neq 17 0)])
 (.cond (.s 18) (.seq (.region [vM 19 5,
 vM 2 19])
 (.ret))
 (.skip))))))
 (.region [vP 20 (vc .add 11 1),
 vM 11 20])))
def k90 : Cd :=
  .seq (.region [vP 2 (.mv (vi 0))])
 (.seq (.seq (.region [vM 6 0,
 vP 7 (.len (.s 6)),
 vP 8 (vc .gtr 7 400)])
 (.cond (.s 8) (.seq (.region [vP 2 (.mv (vi 2))])
 (.ret))
 (.skip)))
 (.seq (.seq (.region [vM 9 0,
 vP 10 (.len (.s 9)),
 vP 11 (.mv (vi 0))])
 (.block 0 (.loop k90l0)))
 (.seq (.seq (.region [vM 21 0,
 vN 22 125 [(.s 21)],
 vP 23 (.len (.s 22)),
 vP 24 (vc .gtr 23 64)])
 (.cond (.s 24) (.seq (.region [vP 2 (.mv (vi 2))])
 (.ret))
 (.skip)))
 (.seq (.region [vP 2 (.mv (vi 0))])
 (.ret)))))
def k91l0 : Cd :=
  .seq (.region [vP 28 (vb .lss 27 26)])
 (.seq (.cond (.s 28) (.skip)
 (.exit 2))
 (.seq (.block 3 (.seq (.region [vI 29 5 25 27,
 vP 30 (.ld true 5 (.s 29)),
 vP 6 (.alloc 46 [(.int .i64 0), (.int .i64 0), (.int .i64 0), (.int .i64 0), (.int .i64 0)]),
 ⟨none, none, .inl (.st 5 (.s 6) (.s 30))⟩])
 (.seq (.region [vF 31 6 4,
 vL 32 1 31,
 vF 33 1 0,
 vL 34 1 33,
 vP 35 (vb .neq 32 34),
 vM 36 35,
 vU 36 37 (.ld true 5 (.s 6)),
 ⟨some (36, false), some 38, .inr (.fn 124 [(.s 37)])⟩,
 vU 36 39 (vc .neq 38 0),
 vP 40 (.pick (.s 36) (.c (.bool true)) (.s 39))])
 (.cond (.s 40) (.seq (.region [vP 2 (.mv (vi 50))])
 (.ret))
 (.skip)))))
 (.region [vP 41 (vc .add 27 1),
 vM 27 41])))
def k91l1 : Cd :=
  .seq (.region [vP 22 (vb .lss 21 20)])
 (.seq (.cond (.s 22) (.skip)
 (.exit 0))
 (.seq (.block 1 (.seq (.region [vI 23 1 19 21,
 vL 24 1 23,
 vM 4 24])
 (.seq (.region [vM 25 4,
 vP 26 (.len (.s 25)),
 vP 27 (.mv (vi 0))])
 (.block 2 (.loop k91l0)))))
 (.region [vP 42 (vc .add 21 1),
 vM 21 42])))
def k91 : Cd :=
  .seq (.region [vP 1 (.box 140 2 (.s 0)),
 vP 2 (.mv (vi 0))])
 (.seq (.seq (.region [vF 7 1 0,
 vL 8 1 7,
 vN 9 97 [(.s 8), (vi 1), (vi 99999)],
 vP 10 (.not (.s 9)),
 vM 11 10,
 vU 11 12 (.fa (.s 1) 1),
 vU 11 13 (.ld false 1 (.s 12)),
 vU 11 14 (.len (.s 13)),
 ⟨some (11, false), some 15, .inr (.fn 97 [(.s 14), (vi 1), (vi 60)])⟩,
 vU 11 16 (.not (.s 15)),
 vP 17 (.pick (.s 11) (.c (.bool true)) (.s 16))])
 (.cond (.s 17) (.seq (.region [vP 2 (.mv (vi 50))])
 (.ret))
 (.skip)))
 (.seq (.seq (.region [vF 18 1 1,
 vL 19 1 18,
 vP 20 (.len (.s 19)),
 vP 21 (.mv (vi 0))])
 (.block 0 (.loop k91l1)))
 (.seq (.region [vP 2 (.mv (vi 0))])
 (.ret))))
def k92l0 : Cd :=
  .seq (.region [vP 10 (vb .lss 9 8)])
 (.seq (.cond (.s 10) (.skip)
 (.exit 0))
 (.seq (.block 1 (.seq (.region [vI 11 1 7 9,
 vL 12 1 11,
 vM 5 12])
 (.region [vM 13 3,
 vM 14 5,
 vP 15 (.len (.s 14)),
 vP 16 (.mm true (.s 13) (.s 15)),
 vM 3 16])))
 (.region [vP 17 (vc .add 9 1),
 vM 9 17])))
def k92 : Cd :=
  .seq (.region [vP 1 (.box 140 2 (.s 0)),
 vP 2 (.mv (vi 0))])
 (.seq (.region [vP 3 (.mv (vi 0))])
 (.seq (.seq (.region [vF 6 1 1,
 vL 7 1 6,
 vP 8 (.len (.s 7)),
 vP 9 (.mv (vi 0))])
 (.block 0 (.loop k92l0)))
 (.seq (.region [vM 18 3,
 vM 2 18])
 (.ret))))
def k93l0 : Cd :=
  .seq (.region [vP 9 (vb .lss 8 7)])
 (.seq (.cond (.s 9) (.skip)
 (.exit 0))
 (.seq (.block 1 (.seq (.region [vI 10 5 6 8,
 vP 11 (.ld true 5 (.s 10)),
 vP 5 (.alloc 46 [(.int .i64 0), (.int .i64 0), (.int .i64 0), (.int .i64 0), (.int .i64 0)]),
 ⟨none, none, .inl (.st 5 (.s 5) (.s 11))⟩])
 (.seq (.region [vM 12 0,
 vF 13 5 0,
 vL 14 1 13,
 vN 15 126 [(.s 12), (.s 14)]])
 (.region [vM 16 0,
 vF 17 5 1,
 vL 18 1 17,
 vN 19 126 [(.s 16), (.s 18)]]))))
 (.region [vP 20 (vc .add 8 1),
 vM 8 20])))
def k93 : Cd :=
  .seq (.region [vM 6 1,
 vP 7 (.len (.s 6)),
 vP 8 (.mv (vi 0))])
 (.block 0 (.loop k93l0))
def k94l0 : Cd :=
  .seq (.seq (.region [vM 14 5,
 vP 15 (.bin .neq (.s 14) (.c (.int .u64 0)))])
 (.cond (.s 15) (.skip)
 (.exit 2)))
 (.seq (.block 3 (.region [vM 20 3,
 vM 21 4,
 vP 22 (.bin .mul (vi 64) (.s 21)),
 vM 23 5,
 vN 24 127 [(.s 23)],
 vP 25 (vb .add 22 24),
 vP 26 (.bs 3 1 1 [(.int .i64 0)] [(0, (.s 25))]),
 vP 27 (.app 3 1 8 (.s 20) (.s 26)),
 vM 3 27]))
 (.region [vM 16 5,
 vM 17 5,
 vP 18 (.bin .sub (.s 17) (.c (.int .u64 1))),
 vP 19 (vb .and 16 18),
 vM 5 19]))
def k94l1 : Cd :=
  .seq (.region [vP 11 (vc .lss 10 33)])
 (.seq (.cond (.s 11) (.skip)
 (.exit 0))
 (.seq (.block 1 (.seq (.region [vM 12 10,
 vP 13 (.ixa false 1 33 (.s 9) (.s 10)),
 vM 4 12,
 vM 5 13])
 (.block 2 (.loop k94l0))))
 (.region [vP 28 (vc .add 10 1),
 vM 10 28])))
def k94 : Cd :=
  .seq (.region [vP 2 (.mv (.c (.slice none 0 0)))])
 (.seq (.region [vP 3 (.mv (.c (.slice none 0 0)))])
 (.seq (.seq (.region [vM 6 0,
 vP 7 (.nc (.s 6)),
 vF 8 7 0,
 vP 9 (.ld true 33 (.s 8)),
 vP 10 (.mv (vi 0))])
 (.block 0 (.loop k94l1)))
 (.seq (.region [vM 29 3,
 vM 2 29])
 (.ret))))
def k95l0 : Cd :=
  .seq (.region [vP 9 (vb .lss 8 7)])
 (.seq (.cond (.s 9) (.skip)
 (.exit 0))
 (.seq (.block 1 (.seq (.region [vM 10 8,
 vM 5 10])
 (.seq (.region [vM 11 1,
 vM 12 0,
 vM 13 5,
 vI 14 5 12 13,
 vP 15 (.ld true 5 (.s 14)),
 ⟨none, some 16, .inr (.val false (.s 11) [(.s 15)])⟩])
 (.cond (.s 16) (.seq (.region [vM 17 5,
 vM 4 17])
 (.ret))
 (.skip)))))
 (.region [vP 18 (vc .add 8 1),
 vM 8 18])))
def k95 : Cd :=
  .seq (.region [vP 4 (.mv (vi 0))])
 (.seq (.seq (.region [vM 6 0,
 vP 7 (.len (.s 6)),
 vP 8 (.mv (vi 0))])
 (.block 0 (.loop k95l0)))
 (.seq (.region [vP 4 (.mv (.c (.int .i64 (-1))))])
 (.ret)))
def k96 : Cd :=
  .seq (.region [vP 5 (.mv (.c (.bool false)))])
 (.seq (.region [vL 6 1 2,
 vM 7 0,
 vP 8 (.bs 66 1 1 [(.slice none 0 0)] [(0, (.s 7))]),
 vP 9 (.app 66 1 24 (.s 6) (.s 8)),
 ⟨none, none, .inl (.st 1 (.s 2) (.s 9))⟩])
 (.seq (.region [vP 5 (.mv (.c (.bool true)))])
 (.ret)))
def k97 : Cd :=
  .seq (.region [vP 6 (.mv (.c (.bool false)))])
 (.seq (.region [vM 7 1,
 vM 8 0,
 vP 9 (vb .leq 7 8),
 vM 10 9,
 vT 10 11 (.mv (.s 0)),
 vT 10 12 (.mv (.s 2)),
 vT 10 13 (vb .leq 11 12),
 vP 14 (.pick (.s 10) (.s 13) (.c (.bool false))),
 vM 6 14])
 (.ret))
def k98l0 : Cd :=
  .seq (.region [vP 14 (vb .lss 13 12)])
 (.seq (.cond (.s 14) (.skip)
 (.exit 0))
 (.seq (.block 1 (.seq (.region [vM 15 13,
 vI 16 1 11 13,
 vL 17 1 16,
 vM 6 15,
 vM 7 17])
 (.region [vM 18 5,
 vF 19 2 1,
 vL 20 1 19,
 vM 21 6,
 vI 22 2 20 21,
 vF 23 22 1,
 vL 24 1 23,
 vM 25 7,
 vI 26 1 24 25,
 vL 27 1 26,
 vP 28 (.app 46 5 40 (.s 18) (.s 27)),
 vM 5 28])))
 (.region [vP 29 (vc .add 13 1),
 vM 13 29])))
def k98 : Cd :=
  .seq (.region [vP 2 (.box 50 2 (.s 0)),
 vP 4 (.mv (.c (.slice none 0 0)))])
 (.seq (.region [vF 8 2 0,
 vL 9 1 8,
 vN 10 128 [(.s 9)],
 vM 5 10])
 (.seq (.seq (.region [vM 11 1,
 vP 12 (.len (.s 11)),
 vP 13 (.mv (vi 0))])
 (.block 0 (.loop k98l0)))
 (.seq (.region [vM 30 5,
 vM 4 30])
 (.ret))))
def k99l0 : Cd :=
  .seq (.region [vP 17 (vb .lss 16 15)])
 (.seq (.cond (.s 17) (.skip)
 (.exit 0))
 (.seq (.block 1 (.seq (.region [vI 18 5 14 16,
 vP 19 (.ld true 5 (.s 18)),
 vP 5 (.alloc 191 [(.int .i64 0), (.bool false), (.int .i64 0), (.int .i64 0), (.int .i64 0)]),
 ⟨none, none, .inl (.st 5 (.s 5) (.s 19))⟩])
 (.region [vP 20 (.ld true 2 (.s 2)),
 vF 21 5 2,
 vL 22 1 21,
 vF 23 5 3,
 vL 24 1 23,
 vF 25 5 4,
 vL 26 1 25,
 vN 27 131 [(.s 20), (.s 22), (.s 24), (.s 26)]])))
 (.region [vP 28 (vc .add 16 1),
 vM 16 28])))
def k99l1 : Cd :=
  .seq (.region [vP 34 (vb .lss 33 32)])
 (.seq (.cond (.s 34) (.skip)
 (.exit 2))
 (.seq (.block 3 (.seq (.region [vM 35 33,
 vM 6 35])
 (.region [vP 36 (.ld true 2 (.s 2)),
 vM 37 6,
 vN 38 132 [(.s 36), (.s 37)]])))
 (.region [vP 39 (vc .add 33 1),
 vM 33 39])))
def k99 : Cd :=
  .seq (.region [vP 1 (.box 157 2 (.s 0)),
 vP 2 (.alloc 152 [(.slice none 0 0), (.slice none 0 0)]),
 vP 3 (.mv (.c (.bool false)))])
 (.seq (.seq (.region [vP 7 (.ld true 2 (.s 1)),
 vN 8 129 [(.s 7)]])
 (.cond (.s 8) (.seq (.region [vP 9 (.bld [(.slice none 0 0), (.slice none 0 0)] []),
 ⟨none, none, .inl (.st 2 (.s 2) (.s 9))⟩,
 vP 3 (.mv (.c (.bool false)))])
 (.ret))
 (.skip)))
 (.seq (.region [vF 10 1 0,
 vL 11 1 10,
 vN 12 130 [(.s 11)],
 ⟨none, none, .inl (.st 2 (.s 2) (.s 12))⟩])
 (.seq (.seq (.region [vF 13 1 1,
 vL 14 1 13,
 vP 15 (.len (.s 14)),
 vP 16 (.mv (vi 0))])
 (.block 0 (.loop k99l0)))
 (.seq (.seq (.region [vF 29 2 0,
 vF 30 29 0,
 vL 31 1 30,
 vP 32 (.len (.s 31)),
 vP 33 (.mv (vi 0))])
 (.block 2 (.loop k99l1)))
 (.seq (.region [vP 40 (.ld true 2 (.s 2)),
 ⟨none, none, .inl (.st 2 (.s 2) (.s 40))⟩,
 vP 3 (.mv (.c (.bool true)))])
 (.ret))))))
def k100l0 : Cd :=
  .seq (.region [vP 19 (vb .lss 18 17)])
 (.seq (.cond (.s 19) (.skip)
 (.exit 0))
 (.seq (.block 1 (.seq (.region [vM 20 18,
 vI 21 5 16 18,
 vP 22 (.ld true 5 (.s 21)),
 vP 7 (.alloc 46 [(.int .i64 0), (.int .i64 0), (.int .i64 0), (.int .i64 0), (.int .i64 0)]),
 vM 6 20,
 ⟨none, none, .inl (.st 5 (.s 7) (.s 22))⟩])
 (.seq (.region [vM 23 1,
 vM 24 6,
 ⟨none, some 25, .inr (.val false (.s 23) [(.s 24)])⟩])
 (.cond (.s 25) (.region [vM 26 5,
 vP 27 (.ld true 5 (.s 7)),
 vP 28 (.bs 46 5 1 [(.int .i64 0), (.int .i64 0), (.int .i64 0), (.int .i64 0), (.int .i64 0)] [(0, (.s 27))]),
 vP 29 (.app 46 5 40 (.s 26) (.s 28)),
 vM 5 29])
 (.skip)))))
 (.region [vP 30 (vc .add 18 1),
 vM 18 30])))
def k100l1 : Cd :=
  .seq (.region [vP 41 (vb .lss 40 39)])
 (.seq (.cond (.s 41) (.skip)
 (.exit 2))
 (.seq (.block 3 (.seq (.region [vM 42 40,
 vI 43 5 38 40,
 vP 44 (.ld true 5 (.s 43)),
 vP 10 (.alloc 46 [(.int .i64 0), (.int .i64 0), (.int .i64 0), (.int .i64 0), (.int .i64 0)]),
 vM 9 42,
 ⟨none, none, .inl (.st 5 (.s 10) (.s 44))⟩])
 (.seq (.seq (.region [vM 45 1,
 vM 46 9,
 ⟨none, some 47, .inr (.val false (.s 45) [(.s 46)])⟩,
 vP 48 (.not (.s 47))])
 (.cond (.s 48) (.exit 3)
 (.skip)))
 (.seq (.draw [vD (vF 49 8 0) 0,
 vD (vL 50 1 49) 1,
 vD (vF 51 10 0) 0,
 vD (vL 52 1 51) 4,
 vD (vN 53 133 [(.s 50), (.s 52)]) 15,
 vD (vF 54 8 0) 0,
 vD (vL 55 1 54) 32,
 vD (vF 56 10 1) 0,
 vD (vL 57 1 56) 128,
 vD (vN 58 133 [(.s 55), (.s 57)]) 511,
 vD (vM 11 53) 1023,
 vD (vM 12 58) 2047])
 (.region [vF 59 8 1,
 vL 60 1 59,
 vM 61 9,
 vP 62 (.bld [(.int .i64 0), (.bool false)] [(0, 1, (.s 61))]),
 vM 63 11,
 vM 64 12,
 vF 65 10 3,
 vL 66 1 65,
 vP 67 (.bld [(.int .i64 0), (.bool false), (.int .i64 0), (.int .i64 0), (.int .i64 0)] [(0, 2, (.s 62)), (2, 1, (.s 63)), (3, 1, (.s 64)), (4, 1, (.s 66))]),
 vM 68 9,
 vP 69 (.bld [(.int .i64 0), (.bool false)] [(0, 1, (.s 68)), (1, 1, (.c (.bool true)))]),
 vM 70 12,
 vM 71 11,
 vF 72 10 2,
 vL 73 1 72,
 vP 74 (.neg (.s 73)),
 vP 75 (.bld [(.int .i64 0), (.bool false), (.int .i64 0), (.int .i64 0), (.int .i64 0)] [(0, 2, (.s 69)), (2, 1, (.s 70)), (3, 1, (.s 71)), (4, 1, (.s 74))]),
 vP 76 (.bs 191 5 2 [(.int .i64 0), (.bool false), (.int .i64 0), (.int .i64 0), (.int .i64 0)] [(0, (.s 67)), (1, (.s 75))]),
 vP 77 (.app 191 5 40 (.s 60) (.s 76)),
 vF 78 8 1,
 ⟨none, none, .inl (.st 1 (.s 78) (.s 77))⟩])))))
 (.region [vP 79 (vc .add 40 1),
 vM 40 79])))
def k100 : Cd :=
  .seq (.region [vP 4 (.alloc 157 [(.slice none 0 0), (.slice none 0 0)])])
 (.seq (.region [vM 13 0,
 vP 14 (.len (.s 13)),
 vP 15 (.mks 46 5 40 [(.int .i64 0), (.int .i64 0), (.int .i64 0), (.int .i64 0), (.int .i64 0)] (vi 0) (.s 14)),
 vM 5 15])
 (.seq (.seq (.region [vM 16 0,
 vP 17 (.len (.s 16)),
 vP 18 (.mv (vi 0))])
 (.block 0 (.loop k100l0)))
 (.seq (.draw [vD (vM 31 5) 0,
 ⟨vN 32 125 [(.s 31)], (some [.at 5]), [.fr 36, .fr 8], 1, false⟩,
 vD (vM 33 5) 0,
 vD (vP 34 (.len (.s 33))) 4,
 vD (vP 35 (.bin .mul (vi 2) (.s 34))) 12,
 ⟨vP 36 (.mks 191 5 40 [(.int .i64 0), (.bool false), (.int .i64 0), (.int .i64 0), (.int .i64 0)] (vi 0) (.s 35)), (some [.fr 36]), [.at 5, .fr 8], 28, false⟩,
 vD (vP 37 (.bld [(.slice none 0 0), (.slice none 0 0)] [(0, 1, (.s 32)), (1, 1, (.s 36))])) 63,
 ⟨vP 8 (.alloc 157 [(.slice none 0 0), (.slice none 0 0)]), (some [.fr 8]), [.at 5, .fr 36], 0, false⟩,
 ⟨⟨none, none, .inl (.st 2 (.s 8) (.s 37))⟩, (some [.fr 8]), [], 255, false⟩])
 (.seq (.seq (.region [vM 38 0,
 vP 39 (.len (.s 38)),
 vP 40 (.mv (vi 0))])
 (.block 2 (.loop k100l1)))
 (.seq (.region [vP 80 (.ld true 2 (.s 8)),
 ⟨none, none, .inl (.st 2 (.s 4) (.s 80))⟩])
 (.ret))))))
def k101 : Cd :=
  .seq (.region [vP 2 (.mv (.c (.bool false)))])
 (.seq (.region [vP 2 (.mv (.c (.bool true)))])
 (.ret))
def k102 : Cd :=
  .seq (.region [vP 4 (.mv (.c (.int .u64 0))),
 vP 5 (.mv (.c (.int .u64 0)))])
 (.seq (.cond (.c (.bool false)) (.seq (.region [vM 11 0,
 vP 12 (.cvi .u32 (.s 11)),
 vM 13 1,
 vP 14 (.cvi .u32 (.s 13)),
 vN 15 134 [(.s 12), (.s 14)],
 vM 10 15,
 vP 16 (.ex (.s 10) 0),
 vP 17 (.ex (.s 10) 1),
 vM 6 16,
 vM 7 17])
 (.seq (.region [vM 18 6,
 vP 19 (.cvi .u64 (.s 18)),
 vM 20 7,
 vP 21 (.cvi .u64 (.s 20)),
 vM 4 19,
 vM 5 21])
 (.ret)))
 (.skip))
 (.seq (.region [vM 23 0,
 vM 24 1,
 vN 25 135 [(.s 23), (.s 24)],
 vM 22 25,
 vP 26 (.ex (.s 22) 0),
 vP 27 (.ex (.s 22) 1),
 vM 8 26,
 vM 9 27])
 (.seq (.region [vM 28 8,
 vM 29 9,
 vM 4 28,
 vM 5 29])
 (.ret))))
def k103l0 : Cd :=
  .seq (.region [vP 12 (vb .lss 11 10)])
 (.seq (.cond (.s 12) (.skip)
 (.exit 0))
 (.seq (.block 1 (.seq (.region [vI 13 4 9 11,
 vP 14 (.ldv true 4 (.s 13)),
 vP 8 (.alloc 115 [(.int .i64 0), (.int .i64 0), (.int .i64 0), (.bool false)]),
 ⟨none, none, .inl (.st 4 (.s 8) (.s 14))⟩])
 (.seq (.draw [vD (vF 15 4 0) 0,
 vD (vF 16 15 0) 1,
 vD (vL 17 1 16) 3,
 vD (vF 18 8 0) 0,
 vD (vF 19 18 1) 8,
 vD (vL 20 1 19) 24,
 vD (vF 21 3 5) 0,
 vD (vL 22 1 21) 64,
 vD (vF 23 8 2) 0,
 vD (vL 24 1 23) 256,
 vD (vI 25 1 22 24) 960,
 vD (vL 26 1 25) 1984,
 vD (vF 27 4 2) 0,
 vD (vL 28 1 27) 4096,
 vD (vI 29 1 26 28) 16320,
 vD (vL 30 1 29) 32704,
 vD (vP 31 (vb .add 20 30)) 65528,
 vD (vP 32 (vb .gtr 17 31)) 131071,
 vD (vM 33 32) 262143,
 vD (vU 33 34 (.fa (.s 8) 0)) 524287,
 vD (vU 33 35 (.fa (.s 34) 0)) 1048575,
 vD (vU 33 36 (.ld false 1 (.s 35))) 2097151,
 vD (vU 33 37 (.fa (.s 4) 0)) 524287,
 vD (vU 33 38 (.fa (.s 37) 1)) 4718591,
 vD (vU 33 39 (.ld false 1 (.s 38))) 13107199,
 vD (vU 33 40 (.fa (.s 3) 5)) 524287,
 vD (vU 33 41 (.ld false 1 (.s 40))) 34078719,
 vD (vU 33 42 (.fa (.s 4) 2)) 524287,
 vD (vU 33 43 (.ld false 1 (.s 42))) 134742015,
 vD (vU 33 44 (.ias 1 (.s 41) (.s 43))) 503840767,
 vD (vU 33 45 (.ld false 1 (.s 44))) 1040711679,
 vD (vU 33 46 (.fa (.s 8) 2)) 524287,
 vD (vU 33 47 (.ld false 1 (.s 46))) 2148007935,
 vD (vU 33 48 (.ias 1 (.s 45) (.s 47))) 8556904447,
 vD (vU 33 49 (.ld false 1 (.s 48))) 17146839039,
 vD (vU 33 50 (vb .add 39 49)) 34356068351,
 vD (vU 33 51 (vb .gtr 36 50)) 68719476735,
 vD (vP 52 (.pick (.s 33) (.c (.bool true)) (.s 51))) 137438953471])
 (.cond (.s 52) (.seq (.region [vP 6 (.mv (.c (.bool false)))])
 (.ret))
 (.skip)))))
 (.region [vP 53 (vc .add 11 1),
 vM 11 53])))
def k103 : Cd :=
  .seq (.region [vP 3 (.box 87 6 (.s 0)),
 vP 4 (.box 115 4 (.s 1)),
 vP 6 (.mv (.c (.bool false)))])
 (.seq (.seq (.region [vM 9 2,
 vP 10 (.len (.s 9)),
 vP 11 (.mv (vi 0))])
 (.block 0 (.loop k103l0)))
 (.seq (.region [vP 6 (.mv (.c (.bool true)))])
 (.ret)))
def k104 : Cd :=
  .seq (.region [vP 4 (.mv (.c (.bool false)))])
 (.seq (.region [vM 5 0,
 vM 6 1,
 vN 7 136 [(.s 5), (.s 6)],
 vP 8 (vc .geq 7 0),
 vM 4 8])
 (.ret))
def k105 : Cd :=
  .seq (.region [vP 2 (.mv (.c (.bool false)))])
 (.seq (.region [vM 3 0,
 vN 4 42 [(.s 3), (vi 0), (vi 200000)],
 vP 5 (.not (.s 4)),
 vM 2 5])
 (.ret))
def k106 : Cd :=
  .seq (.region [vP 4 (.alloc 63 [(.int .i64 0), (.int .i64 0)]),
 vP 5 (.mv (vi 0))])
 (.seq (.seq (.region [vM 7 0,
 vN 8 42 [(.s 7), (.c (.int .i64 (-1000000000))), (vi 1000000000)],
 vP 9 (.not (.s 8)),
 vM 10 9,
 vU 10 11 (.mv (.s 1)),
 ⟨some (10, false), some 12, .inr (.fn 42 [(.s 11), (.c (.int .i64 (-1000000000))), (vi 1000000000)])⟩,
 vU 10 13 (.not (.s 12)),
 vP 14 (.pick (.s 10) (.c (.bool true)) (.s 13)),
 vM 15 14,
 vU 15 16 (.mv (.s 1)),
 vU 15 17 (vc .eql 16 0),
 vP 18 (.pick (.s 15) (.c (.bool true)) (.s 17))])
 (.cond (.s 18) (.seq (.region [vP 19 (.bld [(.int .i64 0), (.int .i64 0)] []),
 ⟨none, none, .inl (.st 2 (.s 4) (.s 19))⟩,
 vP 5 (.mv (vi 1))])
 (.ret))
 (.skip)))
 (.seq (.region [vM 20 0,
 vM 21 1,
 vN 22 137 [(.s 20), (.s 21)],
 vM 6 22])
 (.seq (.seq (.region [vM 23 1,
 vP 24 (vc .lss 23 0)])
 (.cond (.s 24) (.region [vM 25 6,
 vP 26 (.neg (.s 25)),
 vM 6 26])
 (.skip)))
 (.seq (.draw [vD (vM 27 0) 0,
 vD (vM 28 6) 0,
 vD (vP 29 (vb .quo 27 28)) 3,
 vD (vM 30 1) 0,
 vD (vM 31 6) 0,
 vD (vP 32 (vb .quo 30 31)) 24,
 vD (vP 33 (.bld [(.int .i64 0), (.int .i64 0)] [(0, 1, (.s 29)), (1, 1, (.s 32))])) 63,
 ⟨⟨none, none, .inl (.st 2 (.s 4) (.s 33))⟩, (some [.at 4]), [], 127, false⟩,
 vD (vP 5 (.mv (vi 0))) 255])
 (.ret)))))
def k107l0 : Cd :=
  .seq (.seq (.draw [vD (vM 18 9) 0,
 vD (vM 19 1) 0,
 vD (vP 20 (vb .gtr 18 19)) 3,
 vD (vM 21 20) 7,
 vD (vT 21 22 (.mv (.s 3))) 15,
 vD (vT 21 23 (.mv (.s 0))) 15,
 vD (vT 21 24 (.mv (.s 9))) 15,
 vD (vT 21 25 (.ias 3 (.s 23) (.s 24))) 111,
 vD (vT 21 26 (.ld true 3 (.s 25))) 239,
 vD (vT 21 27 (.mv (.s 0))) 15,
 vD (vT 21 28 (.mv (.s 9))) 15,
 vD (vT 21 29 (vc .sub 28 1)) 1039,
 vD (vT 21 30 (.ias 3 (.s 27) (.s 29))) 3599,
 vD (vT 21 31 (.ld true 3 (.s 30))) 7695,
 ⟨⟨some (21, true), some 32, .inr (.val true (.s 22) [(.s 26), (.s 31)])⟩, some [], [], 16383, false⟩,
 vD (vT 21 33 (vc .lss 32 0)) 32767,
 vD (vP 34 (.pick (.s 21) (.s 33) (.c (.bool false)))) 65535])
 (.cond (.s 34) (.skip)
 (.exit 2)))
 (.seq (.block 3 (.draw [vD (vM 37 0) 0,
 vD (vM 38 9) 0,
 vD (vM 39 0) 0,
 vD (vM 40 9) 0,
 vD (vP 41 (vc .sub 40 1)) 8,
 vD (vM 42 0) 0,
 vD (vM 43 9) 0,
 vD (vP 44 (vc .sub 43 1)) 64,
 vD (vI 45 3 42 44) 224,
 vD (vP 46 (.ld true 3 (.s 45))) 480,
 vD (vM 47 0) 0,
 vD (vM 48 9) 0,
 vD (vI 49 3 47 48) 3072,
 vD (vP 50 (.ld true 3 (.s 49))) 7168,
 vD (vI 51 3 37 38) 16355,
 ⟨⟨none, none, .inl (.st 3 (.s 51) (.s 46))⟩, (some [.at 0]), [], 32739, false⟩,
 vD (vI 52 3 39 41) 65535,
 ⟨⟨none, none, .inl (.st 3 (.s 52) (.s 50))⟩, (some [.at 0]), [], 131071, false⟩]))
 (.region [vM 35 9,
 vP 36 (vc .sub 35 1),
 vM 9 36]))
def k107l1 : Cd :=
  .seq (.seq (.region [vM 12 8,
 vM 13 2,
 vP 14 (vb .lss 12 13)])
 (.cond (.s 14) (.skip)
 (.exit 0)))
 (.seq (.block 1 (.seq (.region [vM 17 8,
 vM 9 17])
 (.block 2 (.loop k107l0))))
 (.region [vM 15 8,
 vP 16 (vc .add 15 1),
 vM 8 16]))
def k107 : Cd :=
  .seq (.region [vM 10 1,
 vP 11 (vc .add 10 1),
 vM 8 11])
 (.block 0 (.loop k107l1))
def k108l0 : Cd :=
  .seq (.seq (.region [vM 20 11,
 vP 21 (vc .geq 20 0)])
 (.cond (.s 21) (.skip)
 (.exit 0)))
 (.seq (.block 1 (.region [vM 24 0,
 vM 25 11,
 vM 26 10,
 vM 27 8,
 vM 28 3,
 vN 29 138 [(.s 24), (.s 25), (.s 26), (.s 27), (.s 28)]]))
 (.region [vM 22 11,
 vP 23 (vc .sub 22 1),
 vM 11 23]))
def k108l1 : Cd :=
  .seq (.seq (.region [vM 32 12,
 vP 33 (vc .geq 32 0)])
 (.cond (.s 33) (.skip)
 (.exit 2)))
 (.seq (.block 3 (.seq (.draw [vD (vM 36 0) 0,
 vD (vM 37 8) 0,
 vD (vM 38 0) 0,
 vD (vM 39 8) 0,
 vD (vM 40 12) 0,
 vD (vP 41 (vb .add 39 40)) 24,
 vD (vM 42 0) 0,
 vD (vM 43 8) 0,
 vD (vM 44 12) 0,
 vD (vP 45 (vb .add 43 44)) 384,
 vD (vI 46 3 42 45) 960,
 vD (vP 47 (.ld true 3 (.s 46))) 1984,
 vD (vM 48 0) 0,
 vD (vM 49 8) 0,
 vD (vI 50 3 48 49) 12288,
 vD (vP 51 (.ld true 3 (.s 50))) 28672,
 vD (vI 52 3 36 37) 65475,
 ⟨⟨none, none, .inl (.st 3 (.s 52) (.s 47))⟩, (some [.at 0]), [], 131011, false⟩,
 vD (vI 53 3 38 41) 262143,
 ⟨⟨none, none, .inl (.st 3 (.s 53) (.s 51))⟩, (some [.at 0]), [], 524287, false⟩])
 (.region [vM 54 0,
 vM 55 9,
 vM 56 12,
 vM 57 8,
 vM 58 3,
 vN 59 138 [(.s 54), (.s 55), (.s 56), (.s 57), (.s 58)]])))
 (.region [vM 34 12,
 vP 35 (vc .sub 34 1),
 vM 12 35]))
def k108 : Cd :=
  .seq (.region [vM 13 1,
 vM 8 13])
 (.seq (.region [vP 9 (.mv (vi 0))])
 (.seq (.region [vM 14 2,
 vM 15 1,
 vP 16 (vb .sub 14 15),
 vM 10 16])
 (.seq (.seq (.region [vM 17 10,
 vP 18 (vc .sub 17 1),
 vP 19 (vc .quo 18 2),
 vM 11 19])
 (.block 0 (.loop k108l0)))
 (.seq (.region [vM 30 10,
 vP 31 (vc .sub 30 1),
 vM 12 31])
 (.block 2 (.loop k108l1))))))
def k109l0 : Cd :=
  .seq (.seq (.region [vM 28 11,
 vM 29 1,
 vM 30 8,
 vP 31 (vc .quo 30 4),
 vP 32 (vc .mul 31 2),
 vP 33 (vb .add 29 32),
 vP 34 (vc .add 33 1),
 vP 35 (vb .leq 28 34)])
 (.cond (.s 35) (.skip)
 (.exit 0)))
 (.seq (.block 1 (.seq (.region [vN 38 140 [(.s 9)],
 vM 39 10,
 vP 40 (.bin .sub (.s 39) (.c (.int .u64 1))),
 vP 41 (vb .and 38 40),
 vP 42 (.cvi .i64 (.s 41)),
 vM 12 42])
 (.seq (.seq (.region [vM 43 12,
 vM 44 8,
 vP 45 (vb .geq 43 44)])
 (.cond (.s 45) (.region [vM 46 12,
 vM 47 8,
 vP 48 (vb .sub 46 47),
 vM 12 48])
 (.skip)))
 (.draw [vD (vM 49 0) 0,
 vD (vM 50 11) 0,
 vD (vM 51 0) 0,
 vD (vM 52 1) 0,
 vD (vM 53 12) 0,
 vD (vP 54 (vb .add 52 53)) 24,
 vD (vM 55 0) 0,
 vD (vM 56 1) 0,
 vD (vM 57 12) 0,
 vD (vP 58 (vb .add 56 57)) 384,
 vD (vI 59 3 55 58) 960,
 vD (vP 60 (.ld true 3 (.s 59))) 1984,
 vD (vM 61 0) 0,
 vD (vM 62 11) 0,
 vD (vI 63 3 61 62) 12288,
 vD (vP 64 (.ld true 3 (.s 63))) 28672,
 vD (vI 65 3 49 50) 65475,
 ⟨⟨none, none, .inl (.st 3 (.s 65) (.s 60))⟩, (some [.at 0]), [], 131011, false⟩,
 vD (vI 66 3 51 54) 262143,
 ⟨⟨none, none, .inl (.st 3 (.s 66) (.s 64))⟩, (some [.at 0]), [], 524287, false⟩]))))
 (.region [vM 36 11,
 vP 37 (vc .add 36 1),
 vM 11 37]))
def k109 : Cd :=
  .seq (.region [vM 13 2,
 vM 14 1,
 vP 15 (vb .sub 13 14),
 vM 8 15])
 (.seq (.region [vM 16 8,
 vP 17 (vc .geq 16 8)])
 (.cond (.s 17) (.seq (.region [vM 18 8,
 vP 19 (.cvi .u64 (.s 18)),
 vP 9 (.alloc 198 [(.int .u64 0)]),
 ⟨none, none, .inl (.st 1 (.s 9) (.s 19))⟩])
 (.seq (.region [vM 20 8,
 vN 21 139 [(.s 20)],
 vM 10 21])
 (.seq (.region [vM 22 1,
 vM 23 8,
 vP 24 (vc .quo 23 4),
 vP 25 (vc .mul 24 2),
 vP 26 (vb .add 22 25),
 vP 27 (vc .sub 26 1),
 vM 11 27])
 (.block 0 (.loop k109l0)))))
 (.skip)))
def k110 : Cd :=
  .seq (.region [vP 8 (.mv (vi 0)),
 vP 9 (.mv (vi 0))])
 (.seq (.region [vM 15 2,
 vM 16 1,
 vP 17 (vb .sub 15 16),
 vM 10 17])
 (.seq (.region [vP 11 (.alloc 3 [(.int .i64 0)])])
 (.seq (.region [vM 18 1,
 vM 19 10,
 vP 20 (vc .quo 19 4),
 vP 21 (vc .mul 20 1),
 vP 22 (vb .add 18 21),
 vM 12 22])
 (.seq (.region [vM 23 1,
 vM 24 10,
 vP 25 (vc .quo 24 4),
 vP 26 (vc .mul 25 2),
 vP 27 (vb .add 23 26),
 vM 13 27])
 (.seq (.region [vM 28 1,
 vM 29 10,
 vP 30 (vc .quo 29 4),
 vP 31 (vc .mul 30 3),
 vP 32 (vb .add 28 31),
 vM 14 32])
 (.seq (.seq (.region [vM 33 10,
 vP 34 (vc .geq 33 8)])
 (.cond (.s 34) (.seq (.seq (.region [vM 35 10,
 vP 36 (vc .geq 35 50)])
 (.cond (.s 36) (.seq (.region [vM 37 0,
 vM 38 12,
 vM 39 3,
 vN 40 141 [(.s 37), (.s 38), (.s 11), (.s 39)],
 vM 12 40])
 (.seq (.region [vM 41 0,
 vM 42 13,
 vM 43 3,
 vN 44 141 [(.s 41), (.s 42), (.s 11), (.s 43)],
 vM 13 44])
 (.region [vM 45 0,
 vM 46 14,
 vM 47 3,
 vN 48 141 [(.s 45), (.s 46), (.s 11), (.s 47)],
 vM 14 48])))
 (.skip)))
 (.region [vM 49 0,
 vM 50 12,
 vM 51 13,
 vM 52 14,
 vM 53 3,
 vN 54 142 [(.s 49), (.s 50), (.s 51), (.s 52), (.s 11), (.s 53)],
 vM 13 54]))
 (.skip)))
 (.seq (.region [vL 55 1 11])
 (.block 0 (.seq (.region [vP 58 (vc .eql 55 0),
 vM 57 58])
 (.cond (.s 57) (.seq (.region [vM 59 13,
 vM 8 59,
 vP 9 (.mv (vi 1))])
 (.ret))
 (.seq (.region [vP 61 (vc .eql 55 12),
 vM 60 61])
 (.cond (.s 60) (.seq (.region [vM 62 13,
 vM 8 62,
 vP 9 (.mv (vi 2))])
 (.ret))
 (.seq (.region [vM 56 13,
 vM 8 56,
 vP 9 (.mv (vi 0))])
 (.ret))))))))))))))
def k111l0 : Cd :=
  .seq (.seq (.region [vM 13 8,
 vM 14 9,
 vP 15 (vb .lss 13 14)])
 (.cond (.s 15) (.skip)
 (.exit 0)))
 (.block 1 (.seq (.draw [vD (vM 16 0) 0,
 vD (vM 17 8) 0,
 vD (vM 18 0) 0,
 vD (vM 19 9) 0,
 vD (vM 20 0) 0,
 vD (vM 21 9) 0,
 vD (vI 22 3 20 21) 48,
 vD (vP 23 (.ld true 3 (.s 22))) 112,
 vD (vM 24 0) 0,
 vD (vM 25 8) 0,
 vD (vI 26 3 24 25) 768,
 vD (vP 27 (.ld true 3 (.s 26))) 1792,
 vD (vI 28 3 16 17) 4083,
 ⟨⟨none, none, .inl (.st 3 (.s 28) (.s 23))⟩, (some [.at 0]), [], 8179, false⟩,
 vD (vI 29 3 18 19) 16383,
 ⟨⟨none, none, .inl (.st 3 (.s 29) (.s 27))⟩, (some [.at 0]), [], 32767, false⟩])
 (.seq (.region [vM 30 8,
 vP 31 (vc .add 30 1),
 vM 8 31])
 (.region [vM 32 9,
 vP 33 (vc .sub 32 1),
 vM 9 33]))))
def k111 : Cd :=
  .seq (.region [vM 10 1,
 vM 8 10])
 (.seq (.region [vM 11 2,
 vP 12 (vc .sub 11 1),
 vM 9 12])
 (.block 0 (.loop k111l0)))
end Go.Proofs.YtlddgfkdicgbeaaGreatDoor
