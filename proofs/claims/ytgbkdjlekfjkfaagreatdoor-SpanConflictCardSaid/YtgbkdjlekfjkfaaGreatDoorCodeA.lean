/- The small code of the functions of this program, as its own reader reads them: part A. -/
import Derived.Test.YtgbkdjlekfjkfaaGreatDoorEmR
namespace Go.Proofs.YtgbkdjlekfjkfaaGreatDoor
open Go Go.Em
set_option maxRecDepth 100000
@[simp] abbrev vM (d x : Nat) : G := ⟨none, some d, .inl (.mv (.s x))⟩
@[simp] abbrev vL (d n x : Nat) : G := ⟨none, some d, .inl (.ld false n (.s x))⟩
@[simp] abbrev vF (d x o : Nat) : G := ⟨none, some d, .inl (.fa (.s x) o)⟩
@[simp] abbrev vI (d n x i : Nat) : G := ⟨none, some d, .inl (.ias n (.s x) (.s i))⟩
@[simp] abbrev vi (n : Int) : X := .c (.int .i64 n)
@[simp] abbrev vb (o : BinOp) (a b : Nat) : M := .bin o (.s a) (.s b)
@[simp] abbrev vc (o : BinOp) (a : Nat) (n : Int) : M := .bin o (.s a) (.c (.int .i64 n))
@[simp] abbrev vP (d : Nat) (m : M) : G := ⟨none, some d, .inl m⟩
@[simp] abbrev vT (g d : Nat) (m : M) : G := ⟨some (g, true), some d, .inl m⟩
@[simp] abbrev vU (g d : Nat) (m : M) : G := ⟨some (g, false), some d, .inl m⟩
@[simp] abbrev vN (d : Nat) (f : FuncId) (l : List X) : G := ⟨none, some d, .inr (.fn f l)⟩
@[simp] abbrev vD (g : G) (n : Nat) : DG := ⟨g, some [], [], n, false⟩
def k5l0 : Cd :=
  .seq (.region [vP 28 (vb .lss 27 26)])
 (.seq (.cond (.s 28) (.skip)
 (.exit 0))
 (.seq (.block 1 (.seq (.region [vI 29 1 25 27,
 vL 30 1 29,
 vM 8 30])
 (.seq (.region [vM 31 1,
 vM 32 8,
 vN 33 21 [(.s 31), (.s 32)],
 vP 34 (.not (.s 33))])
 (.cond (.s 34) (.region [vM 35 6,
 vM 36 8,
 vP 37 (.bs 3 1 1 [(.int .i64 0)] [(0, (.s 36))]),
 vP 38 (.app 3 1 8 (.s 35) (.s 37)),
 vM 6 38])
 (.skip)))))
 (.region [vP 39 (vc .add 27 1),
 vM 27 39])))
def k5l1 : Cd :=
  .seq (.region [vP 43 (vb .lss 42 41)])
 (.seq (.cond (.s 43) (.skip)
 (.exit 2))
 (.seq (.block 3 (.seq (.region [vI 44 1 40 42,
 vL 45 1 44,
 vM 10 45])
 (.seq (.region [vM 47 0,
 vM 48 6,
 vM 49 10,
 vN 50 23 [(.s 48), (.s 49)],
 vN 51 22 [(.s 47), (.s 50)],
 vN 52 11 [(.s 51), (.c (.slice none 0 0))],
 vM 46 52,
 vP 53 (.ex (.s 46) 0),
 vP 54 (.ex (.s 46) 1),
 vM 11 53,
 vM 12 54])
 (.seq (.region [vM 55 12,
 vP 56 (vc .neq 55 0),
 vM 57 56,
 vU 57 58 (.mv (.s 11)),
 vU 57 59 (.len (.s 58)),
 vU 57 60 (vc .gtr 59 64),
 vP 61 (.pick (.s 57) (.c (.bool true)) (.s 60))])
 (.cond (.s 61) (.seq (.region [vP 4 (.mv (.c (.bool false)))])
 (.ret))
 (.skip))))))
 (.region [vP 62 (vc .add 42 1),
 vM 42 62])))
def k5 : Cd :=
  .seq (.region [vP 4 (.mv (.c (.bool false)))])
 (.seq (.region [vM 13 0,
 vM 14 1,
 vN 15 18 [(.s 13), (.s 14)],
 vM 5 15])
 (.seq (.seq (.region [vM 16 5,
 vM 17 0,
 vM 18 1,
 vN 19 19 [(.s 17), (.s 18)],
 vP 20 (vb .neq 16 19)])
 (.cond (.s 20) (.seq (.region [vP 4 (.mv (.c (.bool false)))])
 (.ret))
 (.skip)))
 (.seq (.seq (.region [vM 21 5,
 vP 22 (vc .neq 21 0)])
 (.cond (.s 22) (.seq (.region [vN 23 10 [],
 vM 4 23])
 (.ret))
 (.skip)))
 (.seq (.region [vP 6 (.mv (.c (.slice none 0 0)))])
 (.seq (.seq (.region [vM 24 0,
 vN 25 20 [(.s 24)],
 vP 26 (.len (.s 25)),
 vP 27 (.mv (vi 0))])
 (.block 0 (.loop k5l0)))
 (.seq (.seq (.region [vM 40 1,
 vP 41 (.len (.s 40)),
 vP 42 (.mv (vi 0))])
 (.block 2 (.loop k5l1)))
 (.seq (.region [vN 63 10 [],
 vM 4 63])
 (.ret))))))))
def k9l0 : Cd :=
  .seq (.region [vP 11 (vb .lss 10 9)])
 (.seq (.cond (.s 11) (.skip)
 (.exit 0))
 (.seq (.block 1 (.seq (.region [vI 12 5 8 10,
 vP 13 (.ld true 5 (.s 12)),
 vP 4 (.alloc 70 [(.int .i64 0), (.int .i64 0), (.int .i64 0), (.int .i64 0), (.int .i64 0)]),
 ⟨none, none, .inl (.st 5 (.s 4) (.s 13))⟩])
 (.seq (.region [vP 14 (.ld true 5 (.s 4)),
 vN 15 42 [(.s 14)],
 vP 16 (vc .neq 15 0)])
 (.cond (.s 16) (.seq (.region [vP 2 (.mv (vi 20))])
 (.ret))
 (.skip)))))
 (.region [vP 17 (vc .add 10 1),
 vM 10 17])))
def k9 : Cd :=
  .seq (.region [vP 2 (.mv (vi 0))])
 (.seq (.seq (.region [vM 5 0,
 vP 6 (.len (.s 5)),
 vP 7 (vc .gtr 6 400)])
 (.cond (.s 7) (.seq (.region [vP 2 (.mv (vi 2))])
 (.ret))
 (.skip)))
 (.seq (.seq (.region [vM 8 0,
 vP 9 (.len (.s 8)),
 vP 10 (.mv (vi 0))])
 (.block 0 (.loop k9l0)))
 (.seq (.seq (.region [vM 18 0,
 vN 19 43 [(.s 18)],
 vP 20 (.len (.s 19)),
 vP 21 (vc .gtr 20 64)])
 (.cond (.s 21) (.seq (.region [vP 2 (.mv (vi 2))])
 (.ret))
 (.skip)))
 (.seq (.region [vP 2 (.mv (vi 0))])
 (.ret)))))
def k10 : Cd :=
  .seq (.region [vP 0 (.mv (.c (.bool false)))])
 (.seq (.region [vN 13 44 [],
 vM 1 13])
 (.seq (.region [vM 15 1,
 vN 16 45 [(.s 15), (vi 0), (vi 9)],
 vM 14 16,
 vP 17 (.ex (.s 14) 0),
 vP 18 (.ex (.s 14) 1),
 vP 19 (.ex (.s 14) 2),
 vM 2 17,
 vM 3 18,
 vM 4 19])
 (.seq (.region [vM 21 1,
 vN 22 46 [(.s 21), (vi 0), (vi 9)],
 vM 20 22,
 vP 23 (.ex (.s 20) 0),
 vP 24 (.ex (.s 20) 1),
 vP 25 (.ex (.s 20) 2),
 vM 5 23,
 vM 6 24,
 vM 7 25])
 (.seq (.region [vM 27 1,
 vN 28 11 [(.s 27), (.c (.slice none 0 0))],
 vM 26 28,
 vP 29 (.ex (.s 26) 0),
 vP 30 (.ex (.s 26) 1),
 vM 8 29,
 vM 9 30])
 (.seq (.region [vM 31 1,
 vP 32 (.bld [(.int .i64 0), (.int .i64 0), (.int .i64 0), (.int .i64 0), (.int .i64 0)] [(0, 1, (vi 9)), (1, 1, (vi 0)), (2, 1, (.c (.int .i64 (-13)))), (3, 1, (.c (.int .i64 (-13)))), (4, 1, (vi 7))]),
 vP 33 (.bs 70 5 1 [(.int .i64 0), (.int .i64 0), (.int .i64 0), (.int .i64 0), (.int .i64 0)] [(0, (.s 32))]),
 vP 34 (.app 70 5 40 (.s 31) (.s 33)),
 vM 10 34])
 (.seq (.region [vM 36 10,
 vN 37 47 [(.s 36)],
 vM 35 37,
 vP 38 (.ex (.s 35) 0),
 vP 39 (.ex (.s 35) 1),
 vM 11 38,
 vM 12 39])
 (.seq (.region [vM 40 2,
 vP 41 (vc .eql 40 14),
 vM 42 41,
 vT 42 43 (.mv (.s 3)),
 vT 42 44 (vc .eql 43 19),
 vP 45 (.pick (.s 42) (.s 44) (.c (.bool false))),
 vM 46 45,
 vT 46 47 (.mv (.s 4)),
 vT 46 48 (vc .eql 47 0),
 vP 49 (.pick (.s 46) (.s 48) (.c (.bool false))),
 vM 50 49,
 vT 50 51 (.mv (.s 5)),
 vT 50 52 (vc .eql 51 19),
 vP 53 (.pick (.s 50) (.s 52) (.c (.bool false))),
 vM 54 53,
 vT 54 55 (.mv (.s 7)),
 vT 54 56 (vc .eql 55 0),
 vP 57 (.pick (.s 54) (.s 56) (.c (.bool false))),
 vM 58 57,
 vT 58 59 (.mv (.s 6)),
 vT 58 60 (.bld [(.int .i64 0), (.bool false)] [(0, 1, (vi 0))]),
 vT 58 61 (.bld [(.int .i64 0), (.bool false)] [(0, 1, (vi 1))]),
 vT 58 62 (.bld [(.int .i64 0), (.bool false)] [(0, 1, (vi 2))]),
 vT 58 63 (.bst 81 2 3 [(.int .i64 0), (.bool false)] [(0, (.s 60)), (1, (.s 61)), (2, (.s 62))]),
 ⟨some (58, true), some 64, .inr (.fn 48 [(.s 59), (.s 63)])⟩,
 vP 65 (.pick (.s 58) (.s 64) (.c (.bool false))),
 vM 66 65,
 vT 66 67 (.mv (.s 8)),
 vT 66 68 (.bld [(.int .i64 0), (.int .i64 0)] [(0, 1, (vi 0))]),
 vT 66 69 (.bld [(.int .i64 0), (.int .i64 0)] [(0, 1, (vi 5)), (1, 1, (vi 10))]),
 vT 66 70 (.bld [(.int .i64 0), (.int .i64 0)] [(0, 1, (vi 6)), (1, 1, (vi 13))]),
 vT 66 71 (.bld [(.int .i64 0), (.int .i64 0)] [(0, 1, (vi 9)), (1, 1, (vi 14))]),
 vT 66 72 (.bst 84 2 4 [(.int .i64 0), (.int .i64 0)] [(0, (.s 68)), (1, (.s 69)), (2, (.s 70)), (3, (.s 71))]),
 ⟨some (66, true), some 73, .inr (.fn 49 [(.s 67), (.s 72)])⟩,
 vP 74 (.pick (.s 66) (.s 73) (.c (.bool false))),
 vM 75 74,
 vT 75 76 (.mv (.s 9)),
 vT 75 77 (vc .eql 76 0),
 vP 78 (.pick (.s 75) (.s 77) (.c (.bool false))),
 vM 79 78,
 vT 79 80 (.mv (.s 11)),
 vT 79 81 (.bst 3 1 2 [(.int .i64 0)] [(0, (vi 4)), (1, (vi 7))]),
 ⟨some (79, true), some 82, .inr (.fn 50 [(.s 80), (.s 81)])⟩,
 vP 83 (.pick (.s 79) (.s 82) (.c (.bool false))),
 vM 84 83,
 vT 84 85 (.mv (.s 12)),
 vT 84 86 (vc .eql 85 0),
 vP 87 (.pick (.s 84) (.s 86) (.c (.bool false))),
 vM 88 87,
 vT 88 89 (.mv (.s 10)),
 vT 88 90 (.bld [(.int .i64 0), (.bool false)] [(0, 1, (vi 3)), (1, 1, (.c (.bool true)))]),
 vT 88 91 (.bld [(.int .i64 0), (.bool false)] [(0, 1, (vi 4)), (1, 1, (.c (.bool true)))]),
 vT 88 92 (.bst 81 2 2 [(.int .i64 0), (.bool false)] [(0, (.s 90)), (1, (.s 91))]),
 ⟨some (88, true), some 93, .inr (.fn 51 [(.s 89), (.s 92)])⟩,
 vT 88 94 (vc .eql 93 0),
 vP 95 (.pick (.s 88) (.s 94) (.c (.bool false))),
 vM 0 95])
 (.ret))))))))
def k11 : Cd :=
  .seq (.region [vP 4 (.mv (.c (.slice none 0 0))),
 vP 5 (.mv (vi 0))])
 (.seq (.seq (.region [vM 9 0,
 vN 10 38 [(.s 9)],
 vM 6 10])
 (.seq (.region [vM 11 6,
 vP 12 (vc .neq 11 0)])
 (.cond (.s 12) (.seq (.region [vM 13 6,
 vP 4 (.mv (.c (.slice none 0 0))),
 vM 5 13])
 (.ret))
 (.skip))))
 (.seq (.region [vM 15 0,
 vN 16 39 [(.s 15), (.f 40)],
 vN 17 52 [(.s 16)],
 vM 14 17,
 vP 18 (.ex (.s 14) 0),
 vP 19 (.ex (.s 14) 1),
 vP 7 (.alloc 90 [(.slice none 0 0), (.slice none 0 0)]),
 ⟨none, none, .inl (.st 2 (.s 7) (.s 18))⟩,
 vM 8 19])
 (.seq (.seq (.region [vM 20 8,
 vP 21 (.not (.s 20))])
 (.cond (.s 21) (.seq (.region [vP 4 (.mv (.c (.slice none 0 0))),
 vP 5 (.mv (vi 25))])
 (.ret))
 (.skip)))
 (.seq (.region [vP 22 (.ld true 2 (.s 7)),
 vN 23 53 [(.s 22)],
 vM 24 1,
 vN 25 54 [(.s 23), (.s 24)],
 vM 4 25,
 vP 5 (.mv (vi 0))])
 (.ret)))))
def k13 : Cd :=
  .seq (.region [vP 2 (.mv (.c (.bool false)))])
 (.seq (.region [vM 6 0,
 vN 7 56 [(.s 6)],
 vM 5 7,
 vP 8 (.ex (.s 5) 0),
 vP 9 (.ex (.s 5) 1),
 vP 3 (.alloc 88 [(.slice none 0 0), (.slice none 0 0)]),
 ⟨none, none, .inl (.st 2 (.s 3) (.s 8))⟩,
 vM 4 9])
 (.seq (.region [vM 10 4,
 vM 2 10])
 (.ret)))
def k18l0 : Cd :=
  .seq (.region [vP 21 (vb .lss 20 19)])
 (.seq (.cond (.s 21) (.skip)
 (.exit 0))
 (.seq (.block 1 (.seq (.region [vI 22 1 18 20,
 vL 23 1 22,
 vM 9 23])
 (.seq (.seq (.region [vM 24 9,
 vM 25 7,
 vP 26 (vb .leq 24 25),
 vM 27 26,
 vU 27 28 (.mv (.s 6)),
 vU 27 29 (.mv (.s 9)),
 ⟨some (27, false), some 30, .inr (.fn 68 [(.s 28), (.s 29)])⟩,
 vU 27 31 (.not (.s 30)),
 vP 32 (.pick (.s 27) (.c (.bool true)) (.s 31))])
 (.cond (.s 32) (.seq (.region [vP 4 (.mv (vi 24))])
 (.ret))
 (.skip)))
 (.region [vM 33 9,
 vM 7 33]))))
 (.region [vP 34 (vc .add 20 1),
 vM 20 34])))
def k18 : Cd :=
  .seq (.region [vP 4 (.mv (vi 0))])
 (.seq (.seq (.region [vM 11 0,
 vN 12 38 [(.s 11)],
 vM 5 12])
 (.seq (.region [vM 13 5,
 vP 14 (vc .neq 13 0)])
 (.cond (.s 14) (.seq (.region [vM 15 5,
 vM 4 15])
 (.ret))
 (.skip))))
 (.seq (.region [vM 16 0,
 vN 17 67 [(.s 16)],
 vM 6 17])
 (.seq (.region [vP 7 (.mv (.c (.int .i64 (-1))))])
 (.seq (.seq (.region [vM 18 1,
 vP 19 (.len (.s 18)),
 vP 20 (.mv (vi 0))])
 (.block 0 (.loop k18l0)))
 (.seq (.region [vM 35 0,
 vM 36 1,
 vN 37 69 [(.s 36)],
 vP 38 (.bld [(.slice none 0 0), (.map none)] [(0, 1, (.s 35)), (1, 1, (.s 37))]),
 vP 10 (.alloc 117 [(.slice none 0 0), (.map none)]),
 ⟨none, none, .inl (.st 2 (.s 10) (.s 38))⟩])
 (.seq (.seq (.region [vP 39 (.ld true 2 (.s 10)),
 vN 40 70 [(.s 39)],
 vP 41 (.not (.s 40)),
 vM 42 41,
 vU 42 43 (.mv (.s 1)),
 vU 42 44 (.ld true 2 (.s 10)),
 vU 42 45 (.mkf (.func 72) [(.s 44)] []),
 ⟨some (42, false), some 46, .inr (.fn 71 [(.s 43), (.s 45)])⟩,
 vP 47 (.pick (.s 42) (.c (.bool true)) (.s 46))])
 (.cond (.s 47) (.seq (.region [vP 4 (.mv (vi 24))])
 (.ret))
 (.skip)))
 (.seq (.region [vP 4 (.mv (vi 0))])
 (.ret))))))))
def k19l0 : Cd :=
  .seq (.region [vP 28 (vb .lss 27 26)])
 (.seq (.cond (.s 28) (.skip)
 (.exit 0))
 (.seq (.block 1 (.seq (.region [vI 29 1 25 27,
 vL 30 1 29,
 vM 8 30])
 (.seq (.region [vM 31 6,
 vM 32 8,
 vN 33 21 [(.s 31), (.s 32)],
 vP 34 (.not (.s 33)),
 vM 35 34,
 vU 35 36 (.mv (.s 0)),
 vU 35 37 (.mv (.s 1)),
 vU 35 38 (.mv (.s 8)),
 ⟨some (35, false), some 39, .inr (.fn 76 [(.s 37), (.s 38)])⟩,
 ⟨some (35, false), some 40, .inr (.fn 74 [(.s 36), (.s 39)])⟩,
 ⟨some (35, false), some 41, .inr (.fn 13 [(.s 40)])⟩,
 vU 35 42 (.not (.s 41)),
 vP 43 (.pick (.s 35) (.c (.bool true)) (.s 42))])
 (.cond (.s 43) (.seq (.region [vP 4 (.mv (vi 24))])
 (.ret))
 (.skip)))))
 (.region [vP 44 (vc .add 27 1),
 vM 27 44])))
def k19 : Cd :=
  .seq (.region [vP 4 (.mv (vi 0))])
 (.seq (.region [vM 9 0,
 vN 10 9 [(.s 9)],
 vM 5 10])
 (.seq (.seq (.region [vM 11 5,
 vP 12 (vc .neq 11 0)])
 (.cond (.s 12) (.seq (.region [vM 13 5,
 vM 4 13])
 (.ret))
 (.skip)))
 (.seq (.seq (.region [vM 14 1,
 vN 15 73 [(.s 14)],
 vP 16 (.not (.s 15)),
 vM 17 16,
 vU 17 18 (.mv (.s 0)),
 vU 17 19 (.mv (.s 1)),
 ⟨some (17, false), some 20, .inr (.fn 74 [(.s 18), (.s 19)])⟩,
 ⟨some (17, false), some 21, .inr (.fn 13 [(.s 20)])⟩,
 vP 22 (.pick (.s 17) (.c (.bool true)) (.s 21))])
 (.cond (.s 22) (.seq (.region [vP 4 (.mv (vi 24))])
 (.ret))
 (.skip)))
 (.seq (.region [vM 23 0,
 vN 24 75 [(.s 23)],
 vM 6 24])
 (.seq (.seq (.region [vM 25 1,
 vP 26 (.len (.s 25)),
 vP 27 (.mv (vi 0))])
 (.block 0 (.loop k19l0)))
 (.seq (.region [vP 4 (.mv (vi 0))])
 (.ret)))))))
def k20 : Cd :=
  .seq (.region [vP 2 (.mv (.c (.slice none 0 0)))])
 (.seq (.seq (.region [vM 3 0,
 vN 4 9 [(.s 3)],
 vP 5 (vc .neq 4 0)])
 (.cond (.s 5) (.seq (.region [vP 2 (.mv (.c (.slice none 0 0)))])
 (.ret))
 (.skip)))
 (.seq (.region [vM 6 0,
 vN 7 75 [(.s 6)],
 vM 2 7])
 (.ret)))
def k21 : Cd :=
  .seq (.region [vP 4 (.mv (.c (.bool false)))])
 (.seq (.region [vM 5 0,
 vM 6 1,
 vN 7 77 [(.s 5), (.s 6)],
 vP 8 (vc .geq 7 0),
 vM 4 8])
 (.ret))
def k22 : Cd :=
  .seq (.region [vP 4 (.mv (.c (.slice none 0 0)))])
 (.seq (.region [vM 6 1,
 vN 7 69 [(.s 6)],
 vP 5 (.alloc 114 [(.map none)]),
 ⟨none, none, .inl (.st 1 (.s 5) (.s 7))⟩])
 (.seq (.region [vM 8 0,
 vN 9 79 [(.s 8)],
 vP 10 (.mkf (.func 80) [] [(.s 5)]),
 vN 11 78 [(.s 9), (.s 10)],
 vM 4 11])
 (.ret)))
def k23l0 : Cd :=
  .seq (.seq (.region [vM 9 5,
 vP 10 (vc .gtr 9 0),
 vM 11 10,
 vT 11 12 (.mv (.s 0)),
 vT 11 13 (.mv (.s 5)),
 vT 11 14 (vc .sub 13 1),
 vT 11 15 (.ias 1 (.s 12) (.s 14)),
 vT 11 16 (.ld false 1 (.s 15)),
 vT 11 17 (.mv (.s 1)),
 vT 11 18 (vb .geq 16 17),
 vP 19 (.pick (.s 11) (.s 18) (.c (.bool false)))])
 (.cond (.s 19) (.skip)
 (.exit 0)))
 (.block 1 (.region [vM 20 5,
 vP 21 (vc .sub 20 1),
 vM 5 21]))
def k23 : Cd :=
  .seq (.region [vP 4 (.mv (.c (.slice none 0 0)))])
 (.seq (.region [vM 7 0,
 vP 8 (.len (.s 7)),
 vM 5 8])
 (.seq (.block 0 (.loop k23l0))
 (.seq (.seq (.region [vM 22 5,
 vM 23 0,
 vP 24 (.len (.s 23)),
 vP 25 (vb .lss 22 24),
 vM 26 25,
 vT 26 27 (.mv (.s 0)),
 vT 26 28 (.mv (.s 5)),
 vT 26 29 (.ias 1 (.s 27) (.s 28)),
 vT 26 30 (.ld false 1 (.s 29)),
 vT 26 31 (.mv (.s 1)),
 vT 26 32 (vb .eql 30 31),
 vP 33 (.pick (.s 26) (.s 32) (.c (.bool false)))])
 (.cond (.s 33) (.seq (.region [vM 34 0,
 vM 4 34])
 (.ret))
 (.skip)))
 (.seq (.region [vP 35 (.bs 3 1 0 [(.int .i64 0)] []),
 vM 36 0,
 vM 37 5,
 vP 38 (.slc 1 (.s 36) none (some (.s 37)) none),
 vP 39 (.app 3 1 8 (.s 35) (.s 38)),
 vM 6 39])
 (.seq (.region [vM 40 6,
 vM 41 1,
 vP 42 (.bs 3 1 1 [(.int .i64 0)] [(0, (.s 41))]),
 vP 43 (.app 3 1 8 (.s 40) (.s 42)),
 vM 6 43])
 (.seq (.region [vM 44 6,
 vM 45 0,
 vM 46 5,
 vP 47 (.slc 1 (.s 45) (some (.s 46)) none none),
 vP 48 (.app 3 1 8 (.s 44) (.s 47)),
 vM 4 48])
 (.ret)))))))
def k38l0 : Cd :=
  .seq (.region [vP 12 (vb .lss 11 10)])
 (.seq (.cond (.s 12) (.skip)
 (.exit 0))
 (.seq (.block 1 (.seq (.region [vI 13 5 9 11,
 vP 14 (.ld true 5 (.s 13)),
 vP 4 (.alloc 70 [(.int .i64 0), (.int .i64 0), (.int .i64 0), (.int .i64 0), (.int .i64 0)]),
 ⟨none, none, .inl (.st 5 (.s 4) (.s 14))⟩])
 (.seq (.region [vP 15 (.ld true 5 (.s 4)),
 vN 16 98 [(.s 15)],
 vM 5 16])
 (.seq (.region [vM 17 5,
 vP 18 (vc .neq 17 0)])
 (.cond (.s 18) (.seq (.region [vM 19 5,
 vM 2 19])
 (.ret))
 (.skip))))))
 (.region [vP 20 (vc .add 11 1),
 vM 11 20])))
def k38 : Cd :=
  .seq (.region [vP 2 (.mv (vi 0))])
 (.seq (.seq (.region [vM 6 0,
 vP 7 (.len (.s 6)),
 vP 8 (vc .gtr 7 400)])
 (.cond (.s 8) (.seq (.region [vP 2 (.mv (vi 2))])
 (.ret))
 (.skip)))
 (.seq (.seq (.region [vM 9 0,
 vP 10 (.len (.s 9)),
 vP 11 (.mv (vi 0))])
 (.block 0 (.loop k38l0)))
 (.seq (.seq (.region [vM 21 0,
 vN 22 99 [(.s 21)],
 vP 23 (.len (.s 22)),
 vP 24 (vc .gtr 23 64)])
 (.cond (.s 24) (.seq (.region [vP 2 (.mv (vi 2))])
 (.ret))
 (.skip)))
 (.seq (.region [vP 2 (.mv (vi 0))])
 (.ret)))))
def k39l0 : Cd :=
  .seq (.region [vP 19 (vb .lss 18 17)])
 (.seq (.cond (.s 19) (.skip)
 (.exit 0))
 (.seq (.block 1 (.seq (.region [vM 20 18,
 vI 21 5 16 18,
 vP 22 (.ld true 5 (.s 21)),
 vP 7 (.alloc 70 [(.int .i64 0), (.int .i64 0), (.int .i64 0), (.int .i64 0), (.int .i64 0)]),
 vM 6 20,
 ⟨none, none, .inl (.st 5 (.s 7) (.s 22))⟩])
 (.seq (.region [vM 23 1,
 vM 24 6,
 ⟨none, some 25, .inr (.val false (.s 23) [(.s 24)])⟩])
 (.cond (.s 25) (.region [vM 26 5,
 vP 27 (.ld true 5 (.s 7)),
 vP 28 (.bs 70 5 1 [(.int .i64 0), (.int .i64 0), (.int .i64 0), (.int .i64 0), (.int .i64 0)] [(0, (.s 27))]),
 vP 29 (.app 70 5 40 (.s 26) (.s 28)),
 vM 5 29])
 (.skip)))))
 (.region [vP 30 (vc .add 18 1),
 vM 18 30])))
def k39l1 : Cd :=
  .seq (.region [vP 41 (vb .lss 40 39)])
 (.seq (.cond (.s 41) (.skip)
 (.exit 2))
 (.seq (.block 3 (.seq (.region [vM 42 40,
 vI 43 5 38 40,
 vP 44 (.ld true 5 (.s 43)),
 vP 10 (.alloc 70 [(.int .i64 0), (.int .i64 0), (.int .i64 0), (.int .i64 0), (.int .i64 0)]),
 vM 9 42,
 ⟨none, none, .inl (.st 5 (.s 10) (.s 44))⟩])
 (.seq (.seq (.region [vM 45 1,
 vM 46 9,
 ⟨none, some 47, .inr (.val false (.s 45) [(.s 46)])⟩,
 vP 48 (.not (.s 47))])
 (.cond (.s 48) (.exit 3)
 (.skip)))
 (.seq (.draw [vD (vF 49 8 0) 0,
 vD (vL 50 1 49) 1,
 vD (vF 51 10 0) 0,
 vD (vL 52 1 51) 4,
 vD (vN 53 100 [(.s 50), (.s 52)]) 15,
 vD (vF 54 8 0) 0,
 vD (vL 55 1 54) 32,
 vD (vF 56 10 1) 0,
 vD (vL 57 1 56) 128,
 vD (vN 58 100 [(.s 55), (.s 57)]) 511,
 vD (vM 11 53) 1023,
 vD (vM 12 58) 2047])
 (.region [vF 59 8 1,
 vL 60 1 59,
 vM 61 9,
 vP 62 (.bld [(.int .i64 0), (.bool false)] [(0, 1, (.s 61))]),
 vM 63 11,
 vM 64 12,
 vF 65 10 3,
 vL 66 1 65,
 vP 67 (.bld [(.int .i64 0), (.bool false), (.int .i64 0), (.int .i64 0), (.int .i64 0)] [(0, 2, (.s 62)), (2, 1, (.s 63)), (3, 1, (.s 64)), (4, 1, (.s 66))]),
 vM 68 9,
 vP 69 (.bld [(.int .i64 0), (.bool false)] [(0, 1, (.s 68)), (1, 1, (.c (.bool true)))]),
 vM 70 12,
 vM 71 11,
 vF 72 10 2,
 vL 73 1 72,
 vP 74 (.neg (.s 73)),
 vP 75 (.bld [(.int .i64 0), (.bool false), (.int .i64 0), (.int .i64 0), (.int .i64 0)] [(0, 2, (.s 69)), (2, 1, (.s 70)), (3, 1, (.s 71)), (4, 1, (.s 74))]),
 vP 76 (.bs 148 5 2 [(.int .i64 0), (.bool false), (.int .i64 0), (.int .i64 0), (.int .i64 0)] [(0, (.s 67)), (1, (.s 75))]),
 vP 77 (.app 148 5 40 (.s 60) (.s 76)),
 vF 78 8 1,
 ⟨none, none, .inl (.st 1 (.s 78) (.s 77))⟩])))))
 (.region [vP 79 (vc .add 40 1),
 vM 40 79])))
def k39 : Cd :=
  .seq (.region [vP 4 (.alloc 65 [(.slice none 0 0), (.slice none 0 0)])])
 (.seq (.region [vM 13 0,
 vP 14 (.len (.s 13)),
 vP 15 (.mks 70 5 40 [(.int .i64 0), (.int .i64 0), (.int .i64 0), (.int .i64 0), (.int .i64 0)] (vi 0) (.s 14)),
 vM 5 15])
 (.seq (.seq (.region [vM 16 0,
 vP 17 (.len (.s 16)),
 vP 18 (.mv (vi 0))])
 (.block 0 (.loop k39l0)))
 (.seq (.draw [vD (vM 31 5) 0,
 ⟨vN 32 99 [(.s 31)], (some [.at 5]), [.fr 36, .fr 8], 1, false⟩,
 vD (vM 33 5) 0,
 vD (vP 34 (.len (.s 33))) 4,
 vD (vP 35 (.bin .mul (vi 2) (.s 34))) 12,
 ⟨vP 36 (.mks 148 5 40 [(.int .i64 0), (.bool false), (.int .i64 0), (.int .i64 0), (.int .i64 0)] (vi 0) (.s 35)), (some [.fr 36]), [.at 5, .fr 8], 28, false⟩,
 vD (vP 37 (.bld [(.slice none 0 0), (.slice none 0 0)] [(0, 1, (.s 32)), (1, 1, (.s 36))])) 63,
 ⟨vP 8 (.alloc 65 [(.slice none 0 0), (.slice none 0 0)]), (some [.fr 8]), [.at 5, .fr 36], 0, false⟩,
 ⟨⟨none, none, .inl (.st 2 (.s 8) (.s 37))⟩, (some [.fr 8]), [], 255, false⟩])
 (.seq (.seq (.region [vM 38 0,
 vP 39 (.len (.s 38)),
 vP 40 (.mv (vi 0))])
 (.block 2 (.loop k39l1)))
 (.seq (.region [vP 80 (.ld true 2 (.s 8)),
 ⟨none, none, .inl (.st 2 (.s 4) (.s 80))⟩])
 (.ret))))))
def k40 : Cd :=
  .seq (.region [vP 2 (.mv (.c (.bool false)))])
 (.seq (.region [vP 2 (.mv (.c (.bool true)))])
 (.ret))
def k42 : Cd :=
  .seq (.region [vP 1 (.box 70 5 (.s 0)),
 vP 2 (.mv (vi 0))])
 (.seq (.seq (.region [vF 3 1 0,
 vL 4 1 3,
 vN 5 103 [(.s 4), (vi 0), (vi 2048)],
 vP 6 (.not (.s 5)),
 vM 7 6,
 vU 7 8 (.fa (.s 1) 1),
 vU 7 9 (.ld false 1 (.s 8)),
 ⟨some (7, false), some 10, .inr (.fn 103 [(.s 9), (vi 0), (vi 2048)])⟩,
 vU 7 11 (.not (.s 10)),
 vP 12 (.pick (.s 7) (.c (.bool true)) (.s 11)),
 vM 13 12,
 vU 13 14 (.fa (.s 1) 0),
 vU 13 15 (.ld false 1 (.s 14)),
 vU 13 16 (.fa (.s 1) 1),
 vU 13 17 (.ld false 1 (.s 16)),
 vU 13 18 (vb .eql 15 17),
 vP 19 (.pick (.s 13) (.c (.bool true)) (.s 18)),
 vM 20 19,
 vU 20 21 (.fa (.s 1) 2),
 vU 20 22 (.ld false 1 (.s 21)),
 ⟨some (20, false), some 23, .inr (.fn 103 [(.s 22), (.c (.int .i64 (-100000))), (vi 100000)])⟩,
 vU 20 24 (.not (.s 23)),
 vP 25 (.pick (.s 20) (.c (.bool true)) (.s 24)),
 vM 26 25,
 vU 26 27 (.fa (.s 1) 3),
 vU 26 28 (.ld false 1 (.s 27)),
 vU 26 29 (.fa (.s 1) 2),
 vU 26 30 (.ld false 1 (.s 29)),
 ⟨some (26, false), some 31, .inr (.fn 103 [(.s 28), (.s 30), (vi 100000)])⟩,
 vU 26 32 (.not (.s 31)),
 vP 33 (.pick (.s 26) (.c (.bool true)) (.s 32)),
 vM 34 33,
 vU 34 35 (.fa (.s 1) 4),
 vU 34 36 (.ld false 1 (.s 35)),
 ⟨some (34, false), some 37, .inr (.fn 103 [(.s 36), (vi 1), (vi 99999)])⟩,
 vU 34 38 (.not (.s 37)),
 vP 39 (.pick (.s 34) (.c (.bool true)) (.s 38))])
 (.cond (.s 39) (.seq (.region [vP 2 (.mv (vi 20))])
 (.ret))
 (.skip)))
 (.seq (.region [vP 2 (.mv (vi 0))])
 (.ret)))
def k43l0 : Cd :=
  .seq (.region [vP 9 (vb .lss 8 7)])
 (.seq (.cond (.s 9) (.skip)
 (.exit 0))
 (.seq (.block 1 (.seq (.region [vI 10 5 6 8,
 vP 11 (.ld true 5 (.s 10)),
 vP 5 (.alloc 70 [(.int .i64 0), (.int .i64 0), (.int .i64 0), (.int .i64 0), (.int .i64 0)]),
 ⟨none, none, .inl (.st 5 (.s 5) (.s 11))⟩])
 (.draw [vD (vM 12 3) 0,
 vD (vF 13 5 0) 0,
 vD (vL 14 1 13) 2,
 vD (vN 15 23 [(.s 12), (.s 14)]) 7,
 vD (vF 16 5 1) 0,
 vD (vL 17 1 16) 16,
 vD (vN 18 23 [(.s 15), (.s 17)]) 63,
 vD (vM 3 18) 127])))
 (.region [vP 19 (vc .add 8 1),
 vM 8 19])))
def k43 : Cd :=
  .seq (.region [vP 2 (.mv (.c (.slice none 0 0)))])
 (.seq (.region [vP 3 (.mv (.c (.slice none 0 0)))])
 (.seq (.seq (.region [vM 6 0,
 vP 7 (.len (.s 6)),
 vP 8 (.mv (vi 0))])
 (.block 0 (.loop k43l0)))
 (.seq (.region [vM 20 3,
 vM 2 20])
 (.ret))))
def k44 : Cd :=
  .seq (.region [vP 0 (.mv (.c (.slice none 0 0)))])
 (.seq (.region [vP 1 (.bld [(.int .i64 0), (.int .i64 0), (.int .i64 0), (.int .i64 0), (.int .i64 0)] [(0, 1, (vi 0)), (1, 1, (vi 5)), (2, 1, (vi 10)), (3, 1, (vi 12)), (4, 1, (vi 1))]),
 vP 2 (.bld [(.int .i64 0), (.int .i64 0), (.int .i64 0), (.int .i64 0), (.int .i64 0)] [(0, 1, (vi 5)), (1, 1, (vi 6)), (2, 1, (vi 3)), (3, 1, (vi 3)), (4, 1, (vi 2))]),
 vP 3 (.bld [(.int .i64 0), (.int .i64 0), (.int .i64 0), (.int .i64 0), (.int .i64 0)] [(0, 1, (vi 6)), (1, 1, (vi 9)), (2, 1, (.c (.int .i64 (-2)))), (3, 1, (vi 4)), (4, 1, (vi 3))]),
 vP 4 (.bld [(.int .i64 0), (.int .i64 0), (.int .i64 0), (.int .i64 0), (.int .i64 0)] [(0, 1, (vi 0)), (1, 1, (vi 9)), (2, 1, (vi 14)), (3, 1, (vi 20)), (4, 1, (vi 4))]),
 vP 5 (.bs 70 5 4 [(.int .i64 0), (.int .i64 0), (.int .i64 0), (.int .i64 0), (.int .i64 0)] [(0, (.s 1)), (1, (.s 2)), (2, (.s 3)), (3, (.s 4))]),
 vM 0 5])
 (.ret))
def k45 : Cd :=
  .seq (.region [vP 6 (.mv (vi 0)),
 vP 7 (.mv (vi 0)),
 vP 8 (.mv (vi 0))])
 (.seq (.region [vM 11 0,
 vM 12 1,
 vM 13 2,
 vN 14 60 [(.s 11), (.s 12), (.s 13)],
 vM 10 14,
 vP 15 (.ex (.s 10) 0),
 vP 16 (.ex (.s 10) 1),
 vP 9 (.alloc 106 [(.slice none 0 0), (.slice none 0 0), (.int .i64 0), (.int .i64 0)]),
 ⟨none, none, .inl (.st 4 (.s 9) (.s 15))⟩,
 vM 8 16])
 (.seq (.seq (.region [vM 17 8,
 vP 18 (vc .neq 17 0)])
 (.cond (.s 18) (.seq (.region [vM 19 8,
 vP 6 (.mv (vi 0)),
 vP 7 (.mv (vi 0)),
 vM 8 19])
 (.ret))
 (.skip)))
 (.seq (.draw [vD (vF 20 9 0) 0,
 vD (vF 21 20 0) 1,
 vD (vF 22 21 1) 3,
 vD (vL 23 1 22) 7,
 vD (vF 24 9 3) 0,
 vD (vL 25 1 24) 16,
 vD (vI 26 1 23 25) 63,
 vD (vL 27 1 26) 127,
 vD (vF 28 9 2) 0,
 vD (vL 29 1 28) 256,
 vD (vI 30 1 27 29) 1023,
 vD (vL 31 1 30) 2047,
 vD (vP 32 (.neg (.s 31))) 4095,
 vD (vF 33 9 0) 0,
 vD (vF 34 33 0) 8192,
 vD (vF 35 34 1) 24576,
 vD (vL 36 1 35) 57344,
 vD (vF 37 9 2) 0,
 vD (vL 38 1 37) 131072,
 vD (vI 39 1 36 38) 516096,
 vD (vL 40 1 39) 1040384,
 vD (vF 41 9 3) 0,
 vD (vL 42 1 41) 2097152,
 vD (vI 43 1 40 42) 8380416,
 vD (vL 44 1 43) 16769024,
 vD (vM 6 32) 8191,
 vD (vM 7 44) 67108863,
 vD (vP 8 (.mv (vi 0))) 134217727])
 (.ret))))
def k46 : Cd :=
  .seq (.region [vP 6 (.mv (vi 0)),
 vP 7 (.mv (.c (.slice none 0 0))),
 vP 8 (.mv (vi 0))])
 (.seq (.region [vM 12 0,
 vM 13 1,
 vM 14 2,
 vN 15 60 [(.s 12), (.s 13), (.s 14)],
 vM 11 15,
 vP 16 (.ex (.s 11) 0),
 vP 17 (.ex (.s 11) 1),
 vP 9 (.alloc 106 [(.slice none 0 0), (.slice none 0 0), (.int .i64 0), (.int .i64 0)]),
 ⟨none, none, .inl (.st 4 (.s 9) (.s 16))⟩,
 vM 10 17])
 (.seq (.seq (.region [vM 18 10,
 vP 19 (vc .neq 18 0)])
 (.cond (.s 19) (.seq (.region [vM 20 10,
 vP 6 (.mv (vi 0)),
 vP 7 (.mv (.c (.slice none 0 0))),
 vM 8 20])
 (.ret))
 (.skip)))
 (.seq (.seq (.region [vF 21 9 0,
 vP 22 (.ld true 2 (.s 21)),
 vF 23 9 2,
 vL 24 1 23,
 vF 25 9 3,
 vL 26 1 25,
 vN 27 61 [(.s 22), (.s 24), (.s 26)]])
 (.cond (.s 27) (.seq (.region [vP 6 (.mv (vi 0)),
 vP 7 (.mv (.c (.slice none 0 0))),
 vP 8 (.mv (vi 5))])
 (.ret))
 (.skip)))
 (.seq (.draw [vD (vF 28 9 0) 0,
 vD (vF 29 28 0) 1,
 vD (vF 30 29 1) 3,
 ⟨vL 31 1 30, some [], [.at 0], 7, false⟩,
 vD (vF 32 9 2) 0,
 ⟨vL 33 1 32, some [], [.at 0], 16, false⟩,
 vD (vI 34 1 31 33) 63,
 ⟨vL 35 1 34, some [], [.at 0], 127, false⟩,
 vD (vF 36 9 3) 0,
 ⟨vL 37 1 36, some [], [.at 0], 256, false⟩,
 vD (vI 38 1 35 37) 1023,
 ⟨vL 39 1 38, some [], [.at 0], 2047, false⟩,
 ⟨vP 40 (.ld true 4 (.s 9)), some [], [.at 0], 0, false⟩,
 vD (vM 41 0) 0,
 ⟨vN 42 39 [(.s 41), (.f 40)], (some [.at 0]), [], 8192, false⟩,
 vD (vP 43 (.fd false 1 1 (.s 42))) 24576,
 vD (vN 44 104 [(.s 40), (.s 43)]) 61440,
 vD (vM 6 39) 131071,
 vD (vM 7 44) 262143,
 vD (vP 8 (.mv (vi 0))) 524287])
 (.ret)))))
def k47l0 : Cd :=
  .region [vM 8 26]
def k47l1 : Cd :=
  .block 1 (.seq (.region [vP 27 (.ld true 2 (.s 6)),
 vM 28 8,
 vN 29 72 [(.s 27), (.s 28)]])
 (.cond (.s 29) (.region [vF 30 6 1,
 vL 31 1 30,
 vM 32 8,
 ⟨none, none, .inl (.upd .int (.s 31) (.s 32) (.c (.bool false)))⟩])
 (.skip)))
def k47 : Cd :=
  .seq (.region [vP 2 (.mv (.c (.slice none 0 0))),
 vP 3 (.mv (vi 0))])
 (.seq (.seq (.region [vM 9 0,
 vN 10 38 [(.s 9)],
 vM 4 10])
 (.seq (.region [vM 11 4,
 vP 12 (vc .neq 11 0)])
 (.cond (.s 12) (.seq (.region [vM 13 4,
 vP 2 (.mv (.c (.slice none 0 0))),
 vM 3 13])
 (.ret))
 (.skip))))
 (.seq (.region [vM 14 0,
 vN 15 67 [(.s 14)],
 vM 5 15])
 (.seq (.region [vM 16 0,
 vM 17 5,
 vN 18 69 [(.s 17)],
 vP 19 (.bld [(.slice none 0 0), (.map none)] [(0, 1, (.s 16)), (1, 1, (.s 18))]),
 vP 6 (.alloc 117 [(.slice none 0 0), (.map none)]),
 ⟨none, none, .inl (.st 2 (.s 6) (.s 19))⟩])
 (.seq (.seq (.region [vP 20 (.ld true 2 (.s 6)),
 vN 21 70 [(.s 20)],
 vP 22 (.not (.s 21))])
 (.cond (.s 22) (.seq (.region [vP 2 (.mv (.c (.slice none 0 0))),
 vP 3 (.mv (vi 4))])
 (.ret))
 (.skip)))
 (.seq (.seq (.region [vM 23 5,
 vN 24 105 [(.s 23)]])
 (.block 0 (.rangeF (.s 24) [25, 26] k47l0 k47l1)))
 (.seq (.region [vM 33 5,
 vP 34 (.mkf (.func 107) [] [(.s 6)]),
 vN 35 106 [(.s 33), (.s 34)],
 vM 2 35,
 vP 3 (.mv (vi 0))])
 (.ret)))))))
def k48l0 : Cd :=
  .seq (.region [vP 14 (vb .lss 13 12)])
 (.seq (.cond (.s 14) (.skip)
 (.exit 0))
 (.seq (.block 1 (.seq (.region [vM 15 13,
 vM 5 15])
 (.seq (.draw [vD (vM 16 0) 0,
 vD (vM 17 5) 0,
 vD (vI 18 2 16 17) 3,
 vD (vP 19 (.ld true 2 (.s 18))) 7,
 vD (vM 20 1) 0,
 vD (vM 21 5) 0,
 vD (vI 22 2 20 21) 48,
 vD (vP 23 (.ld true 2 (.s 22))) 112,
 vD (vP 24 (.eq true (.cells [.int, .bool]) (.s 19) (.s 23))) 255])
 (.cond (.s 24) (.seq (.region [vP 4 (.mv (.c (.bool false)))])
 (.ret))
 (.skip)))))
 (.region [vP 25 (vc .add 13 1),
 vM 13 25])))
def k48 : Cd :=
  .seq (.region [vP 4 (.mv (.c (.bool false)))])
 (.seq (.seq (.region [vM 6 0,
 vP 7 (.len (.s 6)),
 vM 8 1,
 vP 9 (.len (.s 8)),
 vP 10 (vb .neq 7 9)])
 (.cond (.s 10) (.seq (.region [vP 4 (.mv (.c (.bool false)))])
 (.ret))
 (.skip)))
 (.seq (.seq (.region [vM 11 0,
 vP 12 (.len (.s 11)),
 vP 13 (.mv (vi 0))])
 (.block 0 (.loop k48l0)))
 (.seq (.region [vP 4 (.mv (.c (.bool true)))])
 (.ret))))
def k49l0 : Cd :=
  .seq (.region [vP 14 (vb .lss 13 12)])
 (.seq (.cond (.s 14) (.skip)
 (.exit 0))
 (.seq (.block 1 (.seq (.region [vM 15 13,
 vM 5 15])
 (.seq (.draw [vD (vM 16 0) 0,
 vD (vM 17 5) 0,
 vD (vI 18 2 16 17) 3,
 vD (vP 19 (.ld true 2 (.s 18))) 7,
 vD (vM 20 1) 0,
 vD (vM 21 5) 0,
 vD (vI 22 2 20 21) 48,
 vD (vP 23 (.ld true 2 (.s 22))) 112,
 vD (vP 24 (.eq true (.cells [.int, .int]) (.s 19) (.s 23))) 255])
 (.cond (.s 24) (.seq (.region [vP 4 (.mv (.c (.bool false)))])
 (.ret))
 (.skip)))))
 (.region [vP 25 (vc .add 13 1),
 vM 13 25])))
def k49 : Cd :=
  .seq (.region [vP 4 (.mv (.c (.bool false)))])
 (.seq (.seq (.region [vM 6 0,
 vP 7 (.len (.s 6)),
 vM 8 1,
 vP 9 (.len (.s 8)),
 vP 10 (vb .neq 7 9)])
 (.cond (.s 10) (.seq (.region [vP 4 (.mv (.c (.bool false)))])
 (.ret))
 (.skip)))
 (.seq (.seq (.region [vM 11 0,
 vP 12 (.len (.s 11)),
 vP 13 (.mv (vi 0))])
 (.block 0 (.loop k49l0)))
 (.seq (.region [vP 4 (.mv (.c (.bool true)))])
 (.ret))))
def k50l0 : Cd :=
  .seq (.region [vP 14 (vb .lss 13 12)])
 (.seq (.cond (.s 14) (.skip)
 (.exit 0))
 (.seq (.block 1 (.seq (.region [vM 15 13,
 vM 5 15])
 (.seq (.draw [vD (vM 16 0) 0,
 vD (vM 17 5) 0,
 vD (vI 18 1 16 17) 3,
 vD (vL 19 1 18) 7,
 vD (vM 20 1) 0,
 vD (vM 21 5) 0,
 vD (vI 22 1 20 21) 48,
 vD (vL 23 1 22) 112,
 vD (vP 24 (vb .neq 19 23)) 255])
 (.cond (.s 24) (.seq (.region [vP 4 (.mv (.c (.bool false)))])
 (.ret))
 (.skip)))))
 (.region [vP 25 (vc .add 13 1),
 vM 13 25])))
def k50 : Cd :=
  .seq (.region [vP 4 (.mv (.c (.bool false)))])
 (.seq (.seq (.region [vM 6 0,
 vP 7 (.len (.s 6)),
 vM 8 1,
 vP 9 (.len (.s 8)),
 vP 10 (vb .neq 7 9)])
 (.cond (.s 10) (.seq (.region [vP 4 (.mv (.c (.bool false)))])
 (.ret))
 (.skip)))
 (.seq (.seq (.region [vM 11 0,
 vP 12 (.len (.s 11)),
 vP 13 (.mv (vi 0))])
 (.block 0 (.loop k50l0)))
 (.seq (.region [vP 4 (.mv (.c (.bool true)))])
 (.ret))))
def k51 : Cd :=
  .seq (.region [vP 4 (.mv (vi 0))])
 (.seq (.region [vM 10 0,
 vM 11 1,
 vN 12 108 [(.s 10), (.s 11)],
 vM 9 12,
 vP 13 (.ex (.s 9) 0),
 vP 14 (.ex (.s 9) 1),
 vP 15 (.ex (.s 9) 2),
 vP 16 (.ex (.s 9) 3),
 vM 5 13,
 vM 6 14,
 vM 7 15,
 vM 8 16])
 (.seq (.seq (.region [vM 17 8,
 vP 18 (vc .neq 17 0)])
 (.cond (.s 18) (.seq (.region [vM 19 8,
 vM 4 19])
 (.ret))
 (.skip)))
 (.seq (.seq (.region [vM 20 5,
 vM 21 6,
 vP 22 (vb .neq 20 21),
 vM 23 22,
 vU 23 24 (.mv (.s 7)),
 vU 23 25 (vc .geq 24 0),
 vP 26 (.pick (.s 23) (.c (.bool true)) (.s 25))])
 (.cond (.s 26) (.seq (.region [vP 4 (.mv (vi 21))])
 (.ret))
 (.skip)))
 (.seq (.region [vP 4 (.mv (vi 0))])
 (.ret)))))
def k52l0 : Cd :=
  .seq (.region [vP 17 (vb .lss 16 15)])
 (.seq (.cond (.s 17) (.skip)
 (.exit 0))
 (.seq (.block 1 (.seq (.region [vI 18 5 14 16,
 vP 19 (.ld true 5 (.s 18)),
 vP 5 (.alloc 148 [(.int .i64 0), (.bool false), (.int .i64 0), (.int .i64 0), (.int .i64 0)]),
 ⟨none, none, .inl (.st 5 (.s 5) (.s 19))⟩])
 (.region [vP 20 (.ld true 2 (.s 2)),
 vF 21 5 2,
 vL 22 1 21,
 vF 23 5 3,
 vL 24 1 23,
 vF 25 5 4,
 vL 26 1 25,
 vN 27 111 [(.s 20), (.s 22), (.s 24), (.s 26)]])))
 (.region [vP 28 (vc .add 16 1),
 vM 16 28])))
def k52l1 : Cd :=
  .seq (.region [vP 34 (vb .lss 33 32)])
 (.seq (.cond (.s 34) (.skip)
 (.exit 2))
 (.seq (.block 3 (.seq (.region [vM 35 33,
 vM 6 35])
 (.region [vP 36 (.ld true 2 (.s 2)),
 vM 37 6,
 vN 38 112 [(.s 36), (.s 37)]])))
 (.region [vP 39 (vc .add 33 1),
 vM 33 39])))
def k52 : Cd :=
  .seq (.region [vP 1 (.box 65 2 (.s 0)),
 vP 2 (.alloc 90 [(.slice none 0 0), (.slice none 0 0)]),
 vP 3 (.mv (.c (.bool false)))])
 (.seq (.seq (.region [vP 7 (.ld true 2 (.s 1)),
 vN 8 109 [(.s 7)]])
 (.cond (.s 8) (.seq (.region [vP 9 (.bld [(.slice none 0 0), (.slice none 0 0)] []),
 ⟨none, none, .inl (.st 2 (.s 2) (.s 9))⟩,
 vP 3 (.mv (.c (.bool false)))])
 (.ret))
 (.skip)))
 (.seq (.region [vF 10 1 0,
 vL 11 1 10,
 vN 12 110 [(.s 11)],
 ⟨none, none, .inl (.st 2 (.s 2) (.s 12))⟩])
 (.seq (.seq (.region [vF 13 1 1,
 vL 14 1 13,
 vP 15 (.len (.s 14)),
 vP 16 (.mv (vi 0))])
 (.block 0 (.loop k52l0)))
 (.seq (.seq (.region [vF 29 2 0,
 vF 30 29 0,
 vL 31 1 30,
 vP 32 (.len (.s 31)),
 vP 33 (.mv (vi 0))])
 (.block 2 (.loop k52l1)))
 (.seq (.region [vP 40 (.ld true 2 (.s 2)),
 ⟨none, none, .inl (.st 2 (.s 2) (.s 40))⟩,
 vP 3 (.mv (.c (.bool true)))])
 (.ret))))))
def k53 : Cd :=
  .seq (.region [vP 1 (.box 90 2 (.s 0)),
 vP 2 (.alloc 95 [(.slice none 0 0), (.slice none 0 0), (.slice none 0 0), (.slice none 0 0)])])
 (.seq (.draw [⟨vP 3 (.ld true 2 (.s 1)), some [], [.fr 8, .fr 13], 0, false⟩,
 vD (vF 4 1 0) 0,
 vD (vF 5 4 0) 2,
 ⟨vL 6 1 5, some [], [.fr 13], 6, false⟩,
 vD (vP 7 (.len (.s 6))) 14,
 ⟨vP 8 (.mks 3 1 8 [(.int .i64 0)] (.s 7) (.s 7)), (some [.fr 8]), [.fr 13], 30, false⟩,
 vD (vF 9 1 0) 0,
 vD (vF 10 9 0) 64,
 ⟨vL 11 1 10, some [], [.fr 8], 192, false⟩,
 vD (vP 12 (.len (.s 11))) 448,
 ⟨vP 13 (.mks 4 1 1 [(.bool false)] (.s 12) (.s 12)), (some [.fr 13]), [.fr 8], 960, false⟩,
 vD (vP 14 (.bld [(.slice none 0 0), (.slice none 0 0), (.slice none 0 0), (.slice none 0 0)] [(0, 2, (.s 3)), (2, 1, (.s 8)), (3, 1, (.s 13))])) 2047,
 ⟨⟨none, none, .inl (.st 4 (.s 2) (.s 14))⟩, (some [.at 2]), [], 4095, false⟩])
 (.ret))
def k54l0 : Cd :=
  .seq (.region [vP 24 (vb .lss 23 22)])
 (.seq (.cond (.s 24) (.skip)
 (.exit 0))
 (.seq (.block 1 (.seq (.region [vM 25 23,
 vI 26 1 21 23,
 vL 27 1 26,
 vM 7 25,
 vM 8 27])
 (.seq (.seq (.region [vF 28 2 3,
 vL 29 1 28,
 vM 30 7,
 vI 31 1 29 30,
 vL 32 1 31,
 vP 33 (.not (.s 32))])
 (.cond (.s 33) (.seq (.region [vP 35 (.ld true 4 (.s 2)),
 vM 36 7,
 vN 37 113 [(.s 35), (.s 36)],
 vM 34 37,
 vP 38 (.ex (.s 34) 0),
 vP 39 (.ex (.s 34) 1),
 vP 40 (.ex (.s 34) 2),
 vM 9 38,
 vM 10 39,
 vM 11 40])
 (.seq (.region [vM 41 11])
 (.cond (.s 41) (.region [vP 42 (.ld true 4 (.s 2)),
 vM 43 7,
 vN 44 63 [(.s 42), (.s 43), (vi 0)]])
 (.seq (.draw [vD (vP 45 (.ld true 4 (.s 2))) 0,
 vD (vM 46 7) 0,
 vD (vM 47 9) 0,
 vD (vM 48 1) 0,
 vD (vM 49 5) 0,
 vD (vM 50 10) 0,
 vD (vM 51 9) 0,
 vD (vP 52 (vb .sub 50 51)) 96,
 vD (vP 53 (vc .add 52 1)) 224,
 vD (vN 54 114 [(.s 48), (.s 49), (.s 53)]) 504,
 vD (vP 55 (vb .add 47 54)) 1020,
 ⟨vN 56 63 [(.s 45), (.s 46), (.s 55)], none, [], 2047, false⟩])
 (.region [vM 57 5,
 vP 58 (vc .add 57 1),
 vM 5 58])))))
 (.skip)))
 (.region [vM 59 6,
 vM 60 8,
 vF 61 2 2,
 vL 62 1 61,
 vM 63 7,
 vI 64 1 62 63,
 vL 65 1 64,
 vP 66 (.bld [(.int .i64 0), (.int .i64 0)] [(0, 1, (.s 60)), (1, 1, (.s 65))]),
 vP 67 (.bs 84 2 1 [(.int .i64 0), (.int .i64 0)] [(0, (.s 66))]),
 vP 68 (.app 84 2 16 (.s 59) (.s 67)),
 vM 6 68]))))
 (.region [vP 69 (vc .add 23 1),
 vM 23 69])))
def k54 : Cd :=
  .seq (.region [vP 2 (.box 95 4 (.s 0)),
 vP 4 (.mv (.c (.slice none 0 0)))])
 (.seq (.region [vP 5 (.mv (vi 0))])
 (.seq (.region [vF 12 2 0,
 vF 13 12 0,
 vF 14 13 0,
 vL 15 1 14,
 vP 16 (.len (.s 15)),
 vP 17 (.mks 84 2 16 [(.int .i64 0), (.int .i64 0)] (vi 0) (.s 16)),
 vM 6 17])
 (.seq (.seq (.region [vF 18 2 0,
 vF 19 18 0,
 vF 20 19 0,
 vL 21 1 20,
 vP 22 (.len (.s 21)),
 vP 23 (.mv (vi 0))])
 (.block 0 (.loop k54l0)))
 (.seq (.region [vM 70 6,
 vM 4 70])
 (.ret)))))
def k56l0 : Cd :=
  .seq (.region [vP 28 (vb .lss 27 26)])
 (.seq (.cond (.s 28) (.skip)
 (.exit 2))
 (.seq (.block 3 (.seq (.region [vM 29 27,
 vM 7 29])
 (.seq (.region [vM 30 5,
 vM 31 7,
 vP 32 (vb .neq 30 31)])
 (.cond (.s 32) (.region [vM 33 6,
 vM 34 7,
 vI 35 1 33 34,
 ⟨none, none, .inl (.st 1 (.s 35) (vi 1000000000))⟩])
 (.skip)))))
 (.region [vP 36 (vc .add 27 1),
 vM 27 36])))
def k56l1 : Cd :=
  .seq (.region [vP 19 (vb .lss 18 17)])
 (.seq (.cond (.s 19) (.skip)
 (.exit 0))
 (.seq (.block 1 (.seq (.region [vM 20 18,
 vM 5 20])
 (.seq (.region [vF 21 4 0,
 vL 22 1 21,
 vP 23 (.len (.s 22)),
 vP 24 (.mks 3 1 8 [(.int .i64 0)] (.s 23) (.s 23)),
 vM 6 24])
 (.seq (.seq (.region [vM 25 6,
 vP 26 (.len (.s 25)),
 vP 27 (.mv (vi 0))])
 (.block 2 (.loop k56l0)))
 (.region [vF 37 4 1,
 vL 38 1 37,
 vM 39 6,
 vP 40 (.bs 40 1 1 [(.slice none 0 0)] [(0, (.s 39))]),
 vP 41 (.app 40 1 24 (.s 38) (.s 40)),
 vF 42 4 1,
 ⟨none, none, .inl (.st 1 (.s 42) (.s 41))⟩])))))
 (.region [vP 43 (vc .add 18 1),
 vM 18 43])))
def k56l2 : Cd :=
  .seq (.region [vP 47 (vb .lss 46 45)])
 (.seq (.cond (.s 47) (.skip)
 (.exit 4))
 (.seq (.block 5 (.seq (.region [vI 48 5 44 46,
 vP 49 (.ld true 5 (.s 48)),
 vP 9 (.alloc 70 [(.int .i64 0), (.int .i64 0), (.int .i64 0), (.int .i64 0), (.int .i64 0)]),
 ⟨none, none, .inl (.st 5 (.s 9) (.s 49))⟩])
 (.seq (.region [vF 50 4 0,
 vL 51 1 50,
 vF 52 9 0,
 vL 53 1 52,
 vN 54 77 [(.s 51), (.s 53)],
 vM 10 54])
 (.seq (.region [vF 55 4 0,
 vL 56 1 55,
 vF 57 9 1,
 vL 58 1 57,
 vN 59 77 [(.s 56), (.s 58)],
 vM 11 59])
 (.seq (.draw [vD (vF 60 4 1) 0,
 vD (vL 61 1 60) 1,
 vD (vM 62 10) 0,
 vD (vI 63 1 61 62) 7,
 vD (vL 64 1 63) 15,
 vD (vM 65 11) 0,
 vD (vF 66 4 1) 0,
 vD (vL 67 1 66) 64,
 vD (vM 68 10) 0,
 vD (vI 69 1 67 68) 448,
 vD (vL 70 1 69) 960,
 vD (vM 71 11) 0,
 vD (vI 72 1 70 71) 4032,
 vD (vL 73 1 72) 8128,
 vD (vF 74 9 3) 0,
 vD (vL 75 1 74) 16384,
 vD (vP 76 (.mm false (.s 73) (.s 75))) 65472,
 vD (vI 77 1 64 65) 131071,
 ⟨⟨none, none, .inl (.st 1 (.s 77) (.s 76))⟩, (some [.at 64]), [], 262143, false⟩])
 (.draw [vD (vF 78 4 1) 0,
 vD (vL 79 1 78) 1,
 vD (vM 80 11) 0,
 vD (vI 81 1 79 80) 7,
 vD (vL 82 1 81) 15,
 vD (vM 83 10) 0,
 vD (vF 84 4 1) 0,
 vD (vL 85 1 84) 64,
 vD (vM 86 11) 0,
 vD (vI 87 1 85 86) 448,
 vD (vL 88 1 87) 960,
 vD (vM 89 10) 0,
 vD (vI 90 1 88 89) 4032,
 vD (vL 91 1 90) 8128,
 vD (vF 92 9 2) 0,
 vD (vL 93 1 92) 16384,
 vD (vP 94 (.neg (.s 93))) 49152,
 vD (vP 95 (.mm false (.s 91) (.s 94))) 131008,
 vD (vI 96 1 82 83) 262143,
 ⟨⟨none, none, .inl (.st 1 (.s 96) (.s 95))⟩, (some [.at 82]), [], 524287, false⟩]))))))
 (.region [vP 97 (vc .add 46 1),
 vM 46 97])))
def k56 : Cd :=
  .seq (.region [vP 2 (.alloc 88 [(.slice none 0 0), (.slice none 0 0)]),
 vP 3 (.mv (.c (.bool false)))])
 (.seq (.region [vM 12 0,
 vN 13 43 [(.s 12)],
 vP 14 (.bld [(.slice none 0 0), (.slice none 0 0)] [(0, 1, (.s 13))]),
 vP 4 (.alloc 88 [(.slice none 0 0), (.slice none 0 0)]),
 ⟨none, none, .inl (.st 2 (.s 4) (.s 14))⟩])
 (.seq (.seq (.region [vF 15 4 0,
 vL 16 1 15,
 vP 17 (.len (.s 16)),
 vP 18 (.mv (vi 0))])
 (.block 0 (.loop k56l1)))
 (.seq (.seq (.region [vM 44 0,
 vP 45 (.len (.s 44)),
 vP 46 (.mv (vi 0))])
 (.block 4 (.loop k56l2)))
 (.seq (.draw [⟨vP 98 (.ld true 2 (.s 4)), some [], [.keep 4], 0, false⟩,
 vD (vP 99 (.ld true 2 (.s 4))) 0,
 ⟨vN 100 116 [(.s 99)], none, [.av 4], 2, false⟩,
 ⟨⟨none, none, .inl (.st 2 (.s 2) (.s 98))⟩, (some [.at 2]), [], 7, false⟩,
 vD (vM 3 100) 15])
 (.ret)))))
def k60 : Cd :=
  .seq (.region [vP 6 (.alloc 106 [(.slice none 0 0), (.slice none 0 0), (.int .i64 0), (.int .i64 0)]),
 vP 7 (.mv (vi 0))])
 (.seq (.seq (.region [vM 14 0,
 vN 15 38 [(.s 14)],
 vM 8 15])
 (.seq (.region [vM 16 8,
 vP 17 (vc .neq 16 0)])
 (.cond (.s 17) (.seq (.region [vP 18 (.bld [(.slice none 0 0), (.slice none 0 0), (.int .i64 0), (.int .i64 0)] []),
 vM 19 8,
 ⟨none, none, .inl (.st 4 (.s 6) (.s 18))⟩,
 vM 7 19])
 (.ret))
 (.skip))))
 (.seq (.region [vM 20 0,
 vN 21 39 [(.s 20), (.f 40)],
 vP 9 (.alloc 65 [(.slice none 0 0), (.slice none 0 0)]),
 ⟨none, none, .inl (.st 2 (.s 9) (.s 21))⟩])
 (.seq (.draw [vD (vF 22 9 0) 0,
 vD (vL 23 1 22) 1,
 vD (vM 24 1) 0,
 vD (vN 25 100 [(.s 23), (.s 24)]) 7,
 vD (vF 26 9 0) 0,
 vD (vL 27 1 26) 16,
 vD (vM 28 2) 0,
 vD (vN 29 100 [(.s 27), (.s 28)]) 127,
 vD (vM 10 25) 255,
 vD (vM 11 29) 511])
 (.seq (.seq (.region [vM 30 10,
 vP 31 (.bin .eql (.s 30) (.c (.int .i64 (-1)))),
 vM 32 31,
 vU 32 33 (.mv (.s 11)),
 vU 32 34 (.bin .eql (.s 33) (.c (.int .i64 (-1)))),
 vP 35 (.pick (.s 32) (.c (.bool true)) (.s 34))])
 (.cond (.s 35) (.seq (.region [vP 36 (.bld [(.slice none 0 0), (.slice none 0 0), (.int .i64 0), (.int .i64 0)] []),
 ⟨none, none, .inl (.st 4 (.s 6) (.s 36))⟩,
 vP 7 (.mv (vi 3))])
 (.ret))
 (.skip)))
 (.seq (.region [vP 38 (.ld true 2 (.s 9)),
 vN 39 52 [(.s 38)],
 vM 37 39,
 vP 40 (.ex (.s 37) 0),
 vP 41 (.ex (.s 37) 1),
 vP 12 (.alloc 90 [(.slice none 0 0), (.slice none 0 0)]),
 ⟨none, none, .inl (.st 2 (.s 12) (.s 40))⟩,
 vM 13 41])
 (.seq (.seq (.region [vM 42 13,
 vP 43 (.not (.s 42))])
 (.cond (.s 43) (.seq (.region [vP 44 (.bld [(.slice none 0 0), (.slice none 0 0), (.int .i64 0), (.int .i64 0)] []),
 ⟨none, none, .inl (.st 4 (.s 6) (.s 44))⟩,
 vP 7 (.mv (vi 25))])
 (.ret))
 (.skip)))
 (.seq (.region [vP 45 (.ld true 2 (.s 12)),
 vM 46 10,
 vM 47 11,
 vP 48 (.bld [(.slice none 0 0), (.slice none 0 0), (.int .i64 0), (.int .i64 0)] [(0, 2, (.s 45)), (2, 1, (.s 46)), (3, 1, (.s 47))]),
 ⟨none, none, .inl (.st 4 (.s 6) (.s 48))⟩,
 vP 7 (.mv (vi 0))])
 (.ret))))))))
def k61 : Cd :=
  .seq (.region [vP 3 (.box 90 2 (.s 0)),
 vP 6 (.mv (.c (.bool false)))])
 (.seq (.region [vF 7 3 0,
 vF 8 7 1,
 vL 9 1 8,
 vM 10 1,
 vI 11 1 9 10,
 vL 12 1 11,
 vM 13 2,
 vI 14 1 12 13,
 vL 15 1 14,
 vP 16 (vc .eql 15 1000000000),
 vM 6 16])
 (.ret))
def k62 : Cd :=
  .seq (.region [vP 6 (.mv (.c (.bool false)))])
 (.seq (.region [vM 7 1,
 vM 8 0,
 vP 9 (vb .leq 7 8),
 vM 10 9,
 vT 10 11 (.mv (.s 0)),
 vT 10 12 (.mv (.s 2)),
 vT 10 13 (vb .leq 11 12),
 vP 14 (.pick (.s 10) (.s 13) (.c (.bool false))),
 vM 6 14])
 (.ret))
def k63 : Cd :=
  .seq (.region [vP 3 (.box 95 4 (.s 0))])
 (.draw [vD (vF 6 3 2) 0,
 vD (vL 7 1 6) 1,
 vD (vM 8 1) 0,
 vD (vF 9 3 3) 0,
 ⟨vL 10 1 9, some [], [.keep 3], 8, false⟩,
 vD (vM 11 1) 0,
 vD (vM 12 2) 0,
 vD (vI 13 1 7 8) 71,
 ⟨⟨none, none, .inl (.st 1 (.s 13) (.s 12))⟩, (some [.at 7]), [.av 3], 199, false⟩,
 vD (vI 14 1 10 11) 511,
 ⟨⟨none, none, .inl (.st 1 (.s 14) (.c (.bool true)))⟩, (some [.at 10]), [], 1023, false⟩])
def k67l0 : Cd :=
  .seq (.region [vP 15 (vb .lss 14 13)])
 (.seq (.cond (.s 15) (.skip)
 (.exit 0))
 (.seq (.block 1 (.seq (.region [vI 16 5 12 14,
 vP 17 (.ld true 5 (.s 16)),
 vP 5 (.alloc 70 [(.int .i64 0), (.int .i64 0), (.int .i64 0), (.int .i64 0), (.int .i64 0)]),
 ⟨none, none, .inl (.st 5 (.s 5) (.s 17))⟩])
 (.region [vM 18 3,
 vF 19 5 4,
 vL 20 1 19,
 vP 21 (.bs 3 1 1 [(.int .i64 0)] [(0, (.s 20))]),
 vP 22 (.app 3 1 8 (.s 18) (.s 21)),
 vM 3 22])))
 (.region [vP 23 (vc .add 14 1),
 vM 14 23])))
def k67 : Cd :=
  .seq (.region [vP 2 (.mv (.c (.slice none 0 0)))])
 (.seq (.seq (.region [vM 6 0,
 vN 7 38 [(.s 6)],
 vP 8 (vc .neq 7 0)])
 (.cond (.s 8) (.seq (.region [vP 2 (.mv (.c (.slice none 0 0)))])
 (.ret))
 (.skip)))
 (.seq (.region [vM 9 0,
 vP 10 (.len (.s 9)),
 vP 11 (.mks 3 1 8 [(.int .i64 0)] (vi 0) (.s 10)),
 vM 3 11])
 (.seq (.seq (.region [vM 12 0,
 vP 13 (.len (.s 12)),
 vP 14 (.mv (vi 0))])
 (.block 0 (.loop k67l0)))
 (.seq (.region [vM 24 3,
 vN 25 122 [(.s 24)],
 vM 2 25])
 (.ret)))))
def k68 : Cd :=
  .seq (.region [vP 4 (.mv (.c (.bool false)))])
 (.seq (.region [vM 5 0,
 vM 6 1,
 vN 7 123 [(.s 5), (.s 6)],
 vP 8 (vc .geq 7 0),
 vM 4 8])
 (.ret))
def k69l0 : Cd :=
  .seq (.region [vP 12 (vb .lss 11 10)])
 (.seq (.cond (.s 12) (.skip)
 (.exit 0))
 (.seq (.block 1 (.seq (.region [vI 13 1 9 11,
 vL 14 1 13,
 vM 5 14])
 (.region [vM 15 3,
 vM 16 5,
 ⟨none, none, .inl (.upd .int (.s 15) (.s 16) (.c (.bool true)))⟩])))
 (.region [vP 17 (vc .add 11 1),
 vM 11 17])))
def k69 : Cd :=
  .seq (.region [vP 2 (.mv (.c (.map none)))])
 (.seq (.region [vM 6 0,
 vP 7 (.len (.s 6)),
 vP 8 (.mkmc (.s 7)),
 vM 3 8])
 (.seq (.seq (.region [vM 9 0,
 vP 10 (.len (.s 9)),
 vP 11 (.mv (vi 0))])
 (.block 0 (.loop k69l0)))
 (.seq (.region [vM 18 3,
 vM 2 18])
 (.ret))))
def k70 : Cd :=
  .seq (.region [vP 1 (.box 117 2 (.s 0)),
 vP 2 (.mv (.c (.bool false)))])
 (.seq (.region [vF 3 1 0,
 vL 4 1 3,
 vP 5 (.mkf (.func 124) [] [(.s 1)]),
 vN 6 39 [(.s 4), (.s 5)],
 vN 7 109 [(.s 6)],
 vM 2 7])
 (.ret))
def k71 : Cd :=
  .seq (.region [vP 4 (.mv (.c (.bool false)))])
 (.seq (.region [vM 5 0,
 vM 6 1,
 vN 7 117 [(.s 5), (.s 6)],
 vP 8 (vc .geq 7 0),
 vM 4 8])
 (.ret))
def k72 : Cd :=
  .seq (.region [vP 2 (.box 117 2 (.s 0)),
 vP 4 (.mv (.c (.bool false)))])
 (.seq (.region [vF 6 2 1,
 vL 7 1 6,
 vM 8 1,
 ⟨none, none, .inl (.upd .int (.s 7) (.s 8) (.c (.bool false)))⟩])
 (.seq (.region [vP 9 (.ld true 2 (.s 2)),
 vN 10 70 [(.s 9)],
 vM 5 10])
 (.seq (.region [vF 11 2 1,
 vL 12 1 11,
 vM 13 1,
 ⟨none, none, .inl (.upd .int (.s 12) (.s 13) (.c (.bool true)))⟩])
 (.seq (.region [vM 14 5,
 vM 4 14])
 (.ret)))))
def k73l0 : Cd :=
  .seq (.seq (.region [vM 4 3,
 vM 5 0,
 vP 6 (.len (.s 5)),
 vP 7 (vb .lss 4 6)])
 (.cond (.s 7) (.skip)
 (.exit 0)))
 (.seq (.block 1 (.seq (.draw [vD (vM 10 0) 0,
 vD (vM 11 3) 0,
 vD (vP 12 (vc .sub 11 1)) 2,
 vD (vI 13 1 10 12) 7,
 vD (vL 14 1 13) 15,
 vD (vM 15 0) 0,
 vD (vM 16 3) 0,
 vD (vI 17 1 15 16) 96,
 vD (vL 18 1 17) 224,
 vD (vP 19 (vb .geq 14 18)) 511])
 (.cond (.s 19) (.seq (.region [vP 2 (.mv (.c (.bool false)))])
 (.ret))
 (.skip))))
 (.region [vM 8 3,
 vP 9 (vc .add 8 1),
 vM 3 9]))
def k73 : Cd :=
  .seq (.region [vP 2 (.mv (.c (.bool false)))])
 (.seq (.seq (.region [vP 3 (.mv (vi 1))])
 (.block 0 (.loop k73l0)))
 (.seq (.region [vP 2 (.mv (.c (.bool true)))])
 (.ret)))
def k74l0 : Cd :=
  .seq (.region [vP 11 (vb .lss 10 9)])
 (.seq (.cond (.s 11) (.skip)
 (.exit 0))
 (.seq (.block 1 (.seq (.region [vI 12 5 8 10,
 vP 13 (.ld true 5 (.s 12)),
 vP 7 (.alloc 70 [(.int .i64 0), (.int .i64 0), (.int .i64 0), (.int .i64 0), (.int .i64 0)]),
 ⟨none, none, .inl (.st 5 (.s 7) (.s 13))⟩])
 (.seq (.region [vM 14 1,
 vF 15 7 4,
 vL 16 1 15,
 vN 17 21 [(.s 14), (.s 16)]])
 (.cond (.s 17) (.region [vM 18 5,
 vP 19 (.ld true 5 (.s 7)),
 vP 20 (.bs 70 5 1 [(.int .i64 0), (.int .i64 0), (.int .i64 0), (.int .i64 0), (.int .i64 0)] [(0, (.s 19))]),
 vP 21 (.app 70 5 40 (.s 18) (.s 20)),
 vM 5 21])
 (.skip)))))
 (.region [vP 22 (vc .add 10 1),
 vM 10 22])))
def k74 : Cd :=
  .seq (.region [vP 4 (.mv (.c (.slice none 0 0)))])
 (.seq (.region [vP 5 (.mv (.c (.slice none 0 0)))])
 (.seq (.seq (.region [vM 8 0,
 vP 9 (.len (.s 8)),
 vP 10 (.mv (vi 0))])
 (.block 0 (.loop k74l0)))
 (.seq (.region [vM 23 5,
 vM 4 23])
 (.ret))))
def k75l0 : Cd :=
  .seq (.region [vP 9 (vb .lss 8 7)])
 (.seq (.cond (.s 9) (.skip)
 (.exit 0))
 (.seq (.block 1 (.seq (.region [vI 10 5 6 8,
 vP 11 (.ld true 5 (.s 10)),
 vP 5 (.alloc 70 [(.int .i64 0), (.int .i64 0), (.int .i64 0), (.int .i64 0), (.int .i64 0)]),
 ⟨none, none, .inl (.st 5 (.s 5) (.s 11))⟩])
 (.region [vM 12 3,
 vF 13 5 4,
 vL 14 1 13,
 vN 15 23 [(.s 12), (.s 14)],
 vM 3 15])))
 (.region [vP 16 (vc .add 8 1),
 vM 8 16])))
def k75 : Cd :=
  .seq (.region [vP 2 (.mv (.c (.slice none 0 0)))])
 (.seq (.region [vP 3 (.mv (.c (.slice none 0 0)))])
 (.seq (.seq (.region [vM 6 0,
 vP 7 (.len (.s 6)),
 vP 8 (.mv (vi 0))])
 (.block 0 (.loop k75l0)))
 (.seq (.region [vM 17 3,
 vM 2 17])
 (.ret))))
def k76l0 : Cd :=
  .seq (.region [vP 11 (vb .lss 10 9)])
 (.seq (.cond (.s 11) (.skip)
 (.exit 0))
 (.seq (.block 1 (.seq (.region [vI 12 1 8 10,
 vL 13 1 12,
 vM 7 13])
 (.seq (.region [vM 14 7,
 vM 15 1,
 vP 16 (vb .neq 14 15)])
 (.cond (.s 16) (.region [vM 17 5,
 vM 18 7,
 vP 19 (.bs 3 1 1 [(.int .i64 0)] [(0, (.s 18))]),
 vP 20 (.app 3 1 8 (.s 17) (.s 19)),
 vM 5 20])
 (.skip)))))
 (.region [vP 21 (vc .add 10 1),
 vM 10 21])))
def k76 : Cd :=
  .seq (.region [vP 4 (.mv (.c (.slice none 0 0)))])
 (.seq (.region [vP 5 (.mv (.c (.slice none 0 0)))])
 (.seq (.seq (.region [vM 8 0,
 vP 9 (.len (.s 8)),
 vP 10 (.mv (vi 0))])
 (.block 0 (.loop k76l0)))
 (.seq (.region [vM 22 5,
 vM 4 22])
 (.ret))))
def k77l0 : Cd :=
  .seq (.region [vP 10 (vb .lss 9 8)])
 (.seq (.cond (.s 10) (.skip)
 (.exit 0))
 (.seq (.block 1 (.seq (.region [vM 11 9,
 vI 12 1 7 9,
 vL 13 1 12,
 vM 5 11,
 vM 6 13])
 (.seq (.region [vM 14 6,
 vM 15 1,
 vP 16 (vb .eql 14 15)])
 (.cond (.s 16) (.seq (.region [vM 17 5,
 vM 4 17])
 (.ret))
 (.skip)))))
 (.region [vP 18 (vc .add 9 1),
 vM 9 18])))
def k77 : Cd :=
  .seq (.region [vP 4 (.mv (vi 0))])
 (.seq (.seq (.region [vM 7 0,
 vP 8 (.len (.s 7)),
 vP 9 (.mv (vi 0))])
 (.block 0 (.loop k77l0)))
 (.seq (.region [vP 4 (.mv (.c (.int .i64 (-1))))])
 (.ret)))
def k78l0 : Cd :=
  .seq (.seq (.region [vM 16 6,
 vM 17 0,
 vP 18 (.len (.s 17)),
 vP 19 (vb .lss 16 18)])
 (.cond (.s 19) (.skip)
 (.exit 0)))
 (.seq (.block 1 (.seq (.region [vM 22 0,
 vM 23 6,
 vI 24 5 22 23,
 vP 25 (.ld true 5 (.s 24)),
 vP 7 (.alloc 70 [(.int .i64 0), (.int .i64 0), (.int .i64 0), (.int .i64 0), (.int .i64 0)]),
 ⟨none, none, .inl (.st 5 (.s 7) (.s 25))⟩])
 (.seq (.region [vM 26 1,
 vP 27 (.ld true 5 (.s 7)),
 ⟨none, some 28, .inr (.val false (.s 26) [(.s 27)])⟩,
 vP 29 (.not (.s 28))])
 (.cond (.s 29) (.seq (.region [vM 30 0,
 vM 31 5,
 vP 32 (.ld true 5 (.s 7)),
 vI 33 5 30 31,
 ⟨none, none, .inl (.st 5 (.s 33) (.s 32))⟩])
 (.region [vM 34 5,
 vP 35 (vc .add 34 1),
 vM 5 35]))
 (.skip)))))
 (.region [vM 20 6,
 vP 21 (vc .add 20 1),
 vM 6 21]))
def k78 : Cd :=
  .seq (.region [vP 4 (.mv (.c (.slice none 0 0)))])
 (.seq (.region [vM 8 0,
 vM 9 1,
 vN 10 125 [(.s 8), (.s 9)],
 vM 5 10])
 (.seq (.seq (.region [vM 11 5,
 vP 12 (.bin .eql (.s 11) (.c (.int .i64 (-1))))])
 (.cond (.s 12) (.seq (.region [vM 13 0,
 vM 4 13])
 (.ret))
 (.skip)))
 (.seq (.seq (.region [vM 14 5,
 vP 15 (vc .add 14 1),
 vM 6 15])
 (.block 0 (.loop k78l0)))
 (.seq (.region [vM 36 0,
 vM 37 5,
 vP 38 (.slc 5 (.s 36) (some (.s 37)) none none),
 ⟨none, none, .inl (.clr [(.int .i64 0), (.int .i64 0), (.int .i64 0), (.int .i64 0), (.int .i64 0)] (.s 38))⟩])
 (.seq (.region [vM 39 0,
 vM 40 5,
 vP 41 (.slc 5 (.s 39) none (some (.s 40)) none),
 vM 4 41])
 (.ret))))))
def k79 : Cd :=
  .seq (.region [vP 2 (.mv (.c (.slice none 0 0)))])
 (.seq (.seq (.region [vM 3 0,
 vP 4 (.eq false (.nil .slice) (.s 3) (.c (.slice none 0 0)))])
 (.cond (.s 4) (.seq (.region [vP 2 (.mv (.c (.slice none 0 0)))])
 (.ret))
 (.skip)))
 (.seq (.region [vP 5 (.bs 70 5 0 [(.int .i64 0), (.int .i64 0), (.int .i64 0), (.int .i64 0), (.int .i64 0)] []),
 vM 6 0,
 vP 7 (.app 70 5 40 (.s 5) (.s 6)),
 vM 2 7])
 (.ret)))
def k80 : Cd :=
  .seq (.region [vP 2 (.box 70 5 (.s 0)),
 vP 3 (.mv (.c (.bool false)))])
 (.seq (.region [vL 4 1 1,
 vF 5 2 4,
 vL 6 1 5,
 vP 7 (.lk .int (.bool false) false (.s 4) (.s 6)),
 vM 3 7])
 (.ret))
def k98 : Cd :=
  .seq (.region [vP 1 (.box 70 5 (.s 0)),
 vP 2 (.mv (vi 0))])
 (.seq (.region [vF 5 1 0,
 vL 6 1 5,
 vN 7 62 [(.s 6), (vi 0), (vi 2048)],
 vM 8 7,
 vT 8 9 (.fa (.s 1) 1),
 vT 8 10 (.ld false 1 (.s 9)),
 ⟨some (8, true), some 11, .inr (.fn 62 [(.s 10), (vi 0), (vi 2048)])⟩,
 vP 12 (.pick (.s 8) (.s 11) (.c (.bool false))),
 vM 13 12,
 vT 13 14 (.fa (.s 1) 0),
 vT 13 15 (.ld false 1 (.s 14)),
 vT 13 16 (.fa (.s 1) 1),
 vT 13 17 (.ld false 1 (.s 16)),
 vT 13 18 (vb .neq 15 17),
 vP 19 (.pick (.s 13) (.s 18) (.c (.bool false))),
 vM 3 19])
 (.seq (.region [vF 20 1 2,
 vL 21 1 20,
 vF 22 1 3,
 vL 23 1 22,
 vN 24 62 [(.s 21), (.c (.int .i64 (-100000))), (.s 23)],
 vM 25 24,
 vT 25 26 (.fa (.s 1) 3),
 vT 25 27 (.ld false 1 (.s 26)),
 vT 25 28 (vc .leq 27 100000),
 vP 29 (.pick (.s 25) (.s 28) (.c (.bool false))),
 vM 4 29])
 (.seq (.seq (.region [vM 30 3,
 vP 31 (.not (.s 30)),
 vM 32 31,
 vU 32 33 (.mv (.s 4)),
 vU 32 34 (.not (.s 33)),
 vP 35 (.pick (.s 32) (.c (.bool true)) (.s 34)),
 vM 36 35,
 vU 36 37 (.fa (.s 1) 4),
 vU 36 38 (.ld false 1 (.s 37)),
 ⟨some (36, false), some 39, .inr (.fn 62 [(.s 38), (vi 1), (vi 99999)])⟩,
 vU 36 40 (.not (.s 39)),
 vP 41 (.pick (.s 36) (.c (.bool true)) (.s 40))])
 (.cond (.s 41) (.seq (.region [vP 2 (.mv (vi 20))])
 (.ret))
 (.skip)))
 (.seq (.region [vP 2 (.mv (vi 0))])
 (.ret)))))
def k99 : Cd :=
  .seq (.region [vP 2 (.mv (.c (.slice none 0 0)))])
 (.seq (.region [vP 3 (.alloc 192 [(.int .u64 0), (.int .u64 0), (.int .u64 0), (.int .u64 0), (.int .u64 0), (.int .u64 0), (.int .u64 0), (.int .u64 0), (.int .u64 0), (.int .u64 0), (.int .u64 0), (.int .u64 0), (.int .u64 0), (.int .u64 0), (.int .u64 0), (.int .u64 0), (.int .u64 0), (.int .u64 0), (.int .u64 0), (.int .u64 0), (.int .u64 0), (.int .u64 0), (.int .u64 0), (.int .u64 0), (.int .u64 0), (.int .u64 0), (.int .u64 0), (.int .u64 0), (.int .u64 0), (.int .u64 0), (.int .u64 0), (.int .u64 0), (.int .u64 0)])])
 (.seq (.region [vM 4 0,
 vN 5 138 [(.s 3), (.s 4)]])
 (.seq (.region [vN 6 139 [(.s 3)],
 vM 2 6])
 (.ret))))
def k100 : Cd :=
  .seq (.region [vP 4 (.mv (vi 0))])
 (.seq (.region [vM 8 0,
 vM 9 1,
 vN 10 140 [(.s 8), (.s 9)],
 vM 7 10,
 vP 11 (.ex (.s 7) 0),
 vP 12 (.ex (.s 7) 1),
 vM 5 11,
 vM 6 12])
 (.seq (.seq (.region [vM 13 6,
 vP 14 (.not (.s 13))])
 (.cond (.s 14) (.seq (.region [vP 4 (.mv (.c (.int .i64 (-1))))])
 (.ret))
 (.skip)))
 (.seq (.region [vM 15 5,
 vM 4 15])
 (.ret))))
def k101l0 : Cd :=
  .seq (.region [vP 26 (vb .lss 25 24)])
 (.seq (.cond (.s 26) (.skip)
 (.exit 2))
 (.seq (.block 3 (.seq (.region [vM 27 25,
 vI 28 5 23 25,
 vP 29 (.ld true 5 (.s 28)),
 vP 6 (.alloc 148 [(.int .i64 0), (.bool false), (.int .i64 0), (.int .i64 0), (.int .i64 0)]),
 vM 5 27,
 ⟨none, none, .inl (.st 5 (.s 6) (.s 29))⟩])
 (.seq (.draw [vD (vM 30 4) 0,
 vD (vF 31 6 2) 0,
 vD (vL 32 1 31) 2,
 vD (vI 33 1 30 32) 7,
 vD (vL 34 1 33) 15,
 vD (vF 35 6 4) 0,
 vD (vL 36 1 35) 32,
 vD (vP 37 (vb .add 34 36)) 127,
 vD (vM 7 37) 255])
 (.seq (.region [vM 38 7,
 vM 39 4,
 vF 40 6 3,
 vL 41 1 40,
 vI 42 1 39 41,
 vL 43 1 42,
 vP 44 (vb .lss 38 43)])
 (.cond (.s 44) (.draw [vD (vM 45 4) 0,
 vD (vF 46 6 3) 0,
 vD (vL 47 1 46) 2,
 vD (vM 48 2) 0,
 vD (vF 49 6 3) 0,
 ⟨vL 50 1 49, some [], [.at 4], 16, false⟩,
 vD (vM 51 7) 0,
 vD (vM 52 5) 0,
 vD (vF 53 6 3) 0,
 ⟨vL 54 1 53, some [], [.at 4, .at 2], 256, false⟩,
 vD (vI 55 1 45 47) 71,
 ⟨⟨none, none, .inl (.st 1 (.s 55) (.s 51))⟩, (some [.at 4]), [], 1095, false⟩,
 vD (vI 56 1 48 50) 3327,
 ⟨⟨none, none, .inl (.st 1 (.s 56) (.s 52))⟩, (some [.at 2]), [], 7423, false⟩,
 vD (vM 3 54) 16383])
 (.skip))))))
 (.region [vP 57 (vc .add 25 1),
 vM 25 57])))
def k101l1 : Cd :=
  .seq (.region [vP 21 (vb .lss 20 19)])
 (.seq (.cond (.s 21) (.skip)
 (.exit 0))
 (.seq (.block 1 (.seq (.region [vP 3 (.mv (.c (.int .i64 (-1))))])
 (.seq (.seq (.region [vF 22 1 1,
 vL 23 1 22,
 vP 24 (.len (.s 23)),
 vP 25 (.mv (vi 0))])
 (.block 2 (.loop k101l0)))
 (.seq (.region [vM 58 3,
 vP 59 (.bin .eql (.s 58) (.c (.int .i64 (-1))))])
 (.cond (.s 59) (.exit 0)
 (.skip))))))
 (.region [vP 60 (vc .add 20 1),
 vM 20 60])))
def k101 : Cd :=
  .seq (.region [vP 1 (.box 65 2 (.s 0)),
 vP 2 (.mv (.c (.slice none 0 0))),
 vP 3 (.mv (vi 0))])
 (.seq (.region [vF 8 1 0,
 vL 9 1 8,
 vP 10 (.len (.s 9)),
 vP 11 (.mks 3 1 8 [(.int .i64 0)] (.s 10) (.s 10)),
 vM 4 11])
 (.seq (.region [vP 12 (.bst 3 1 1 [(.int .i64 0)] [(0, (.c (.int .i64 (-1))))]),
 vF 13 1 0,
 vL 14 1 13,
 vP 15 (.len (.s 14)),
 vN 16 141 [(.s 12), (.s 15)],
 vM 2 16])
 (.seq (.region [vP 3 (.mv (.c (.int .i64 (-1))))])
 (.seq (.seq (.region [vF 17 1 0,
 vL 18 1 17,
 vP 19 (.len (.s 18)),
 vP 20 (.mv (vi 0))])
 (.block 0 (.loop k101l1)))
 (.seq (.region [vM 61 2,
 vM 62 3,
 vM 2 61,
 vM 3 62])
 (.ret))))))
def k103 : Cd :=
  .seq (.region [vP 6 (.mv (.c (.bool false)))])
 (.seq (.region [vM 7 1,
 vM 8 0,
 vP 9 (vb .leq 7 8),
 vM 10 9,
 vT 10 11 (.mv (.s 0)),
 vT 10 12 (.mv (.s 2)),
 vT 10 13 (vb .leq 11 12),
 vP 14 (.pick (.s 10) (.s 13) (.c (.bool false))),
 vM 6 14])
 (.ret))
def k104l0 : Cd :=
  .seq (.seq (.region [vL 14 1 7,
 vF 15 2 3,
 vL 16 1 15,
 vP 17 (vb .neq 14 16)])
 (.cond (.s 17) (.skip)
 (.exit 0)))
 (.seq (.block 1 (.seq (.region [vM 18 1,
 vP 19 (.mkf (.func 144) [] [(.s 7), (.s 5), (.s 2)]),
 vN 20 143 [(.s 18), (.s 19)],
 vM 8 20])
 (.seq (.region [vM 21 6,
 vM 22 1,
 vM 23 8,
 vI 24 5 22 23,
 vF 25 24 0,
 vP 26 (.ld true 2 (.s 25)),
 vP 27 (.bs 81 2 1 [(.int .i64 0), (.bool false)] [(0, (.s 26))]),
 vP 28 (.app 81 2 16 (.s 21) (.s 27)),
 vM 6 28])
 (.region [vM 29 1,
 vM 30 8,
 vI 31 5 29 30,
 vF 32 31 3,
 vL 33 1 32,
 ⟨none, none, .inl (.st 1 (.s 7) (.s 33))⟩]))))
 (.seq (.region [vL 34 1 7])
 (.region [vP 7 (.alloc 3 [(.int .i64 0)]),
 ⟨none, none, .inl (.st 1 (.s 7) (.s 34))⟩])))
def k104 : Cd :=
  .seq (.region [vP 2 (.box 106 4 (.s 0)),
 vP 4 (.mv (.c (.slice none 0 0)))])
 (.seq (.region [vP 9 (.ld true 4 (.s 2)),
 vM 10 1,
 vN 11 142 [(.s 9), (.s 10)],
 vP 5 (.alloc 40 [(.slice none 0 0)]),
 ⟨none, none, .inl (.st 1 (.s 5) (.s 11))⟩])
 (.seq (.region [vP 6 (.mv (.c (.slice none 0 0)))])
 (.seq (.seq (.region [vF 12 2 2,
 vL 13 1 12,
 vP 7 (.alloc 3 [(.int .i64 0)]),
 ⟨none, none, .inl (.st 1 (.s 7) (.s 13))⟩])
 (.block 0 (.loop k104l0)))
 (.seq (.region [vM 35 6,
 vM 4 35])
 (.ret)))))
def k105 : Cd :=
  .seq (.region [vP 1 (.box 40 1 (.s 0)),
 vP 2 (.mv (.c .nilFunc))])
 (.seq (.region [vP 3 (.mkf (.func 146) [] [(.s 1)]),
 vM 2 3])
 (.ret))
def k106l0 : Cd :=
  .seq (.seq (.region [vM 16 6,
 vM 17 0,
 vP 18 (.len (.s 17)),
 vP 19 (vb .lss 16 18)])
 (.cond (.s 19) (.skip)
 (.exit 0)))
 (.seq (.block 1 (.seq (.region [vM 22 0,
 vM 23 6,
 vI 24 1 22 23,
 vL 25 1 24,
 vM 7 25])
 (.seq (.region [vM 26 1,
 vM 27 7,
 ⟨none, some 28, .inr (.val false (.s 26) [(.s 27)])⟩,
 vP 29 (.not (.s 28))])
 (.cond (.s 29) (.seq (.region [vM 30 0,
 vM 31 5,
 vM 32 7,
 vI 33 1 30 31,
 ⟨none, none, .inl (.st 1 (.s 33) (.s 32))⟩])
 (.region [vM 34 5,
 vP 35 (vc .add 34 1),
 vM 5 35]))
 (.skip)))))
 (.region [vM 20 6,
 vP 21 (vc .add 20 1),
 vM 6 21]))
def k106 : Cd :=
  .seq (.region [vP 4 (.mv (.c (.slice none 0 0)))])
 (.seq (.region [vM 8 0,
 vM 9 1,
 vN 10 117 [(.s 8), (.s 9)],
 vM 5 10])
 (.seq (.seq (.region [vM 11 5,
 vP 12 (.bin .eql (.s 11) (.c (.int .i64 (-1))))])
 (.cond (.s 12) (.seq (.region [vM 13 0,
 vM 4 13])
 (.ret))
 (.skip)))
 (.seq (.seq (.region [vM 14 5,
 vP 15 (vc .add 14 1),
 vM 6 15])
 (.block 0 (.loop k106l0)))
 (.seq (.region [vM 36 0,
 vM 37 5,
 vP 38 (.slc 1 (.s 36) (some (.s 37)) none none),
 ⟨none, none, .inl (.clr [(.int .i64 0)] (.s 38))⟩])
 (.seq (.region [vM 39 0,
 vM 40 5,
 vP 41 (.slc 1 (.s 39) none (some (.s 40)) none),
 vM 4 41])
 (.ret))))))
def k107 : Cd :=
  .seq (.region [vP 3 (.mv (.c (.bool false)))])
 (.seq (.region [vF 4 1 1,
 vL 5 1 4,
 vM 6 0,
 vP 7 (.lk .int (.bool false) false (.s 5) (.s 6)),
 vP 8 (.not (.s 7)),
 vM 3 8])
 (.ret))
def k108l0 : Cd :=
  .seq (.region [vP 28 (vb .lss 27 26)])
 (.seq (.cond (.s 28) (.skip)
 (.exit 0))
 (.seq (.block 1 (.seq (.region [vM 29 27,
 vI 30 2 25 27,
 vP 31 (.ld true 2 (.s 30)),
 vP 10 (.alloc 81 [(.int .i64 0), (.bool false)]),
 vM 9 29,
 ⟨none, none, .inl (.st 2 (.s 10) (.s 31))⟩])
 (.seq (.seq (.region [vF 32 10 0,
 vL 33 1 32,
 vM 34 0,
 vP 35 (.len (.s 34)),
 vP 36 (vc .sub 35 1),
 vN 37 62 [(.s 33), (vi 0), (.s 36)],
 vP 38 (.not (.s 37))])
 (.cond (.s 38) (.seq (.region [vP 4 (.mv (vi 0)),
 vP 5 (.mv (vi 0)),
 vP 6 (.mv (vi 0)),
 vP 7 (.mv (vi 21))])
 (.ret))
 (.skip)))
 (.seq (.draw [vD (vM 40 0) 0,
 vD (vF 41 10 0) 0,
 vD (vL 42 1 41) 2,
 vD (vI 43 5 40 42) 7,
 vD (vP 44 (.ld true 5 (.s 43))) 15,
 vD (vF 45 10 1) 0,
 vD (vL 46 1 45) 32,
 vD (vN 47 147 [(.s 44), (.s 46)]) 127,
 vD (vM 39 47) 255,
 vD (vP 48 (.ex (.s 39) 0)) 511,
 vD (vP 49 (.ex (.s 39) 1)) 511,
 vD (vP 50 (.ex (.s 39) 2)) 511,
 vD (vM 11 48) 1023,
 vD (vM 12 49) 6143,
 vD (vM 13 50) 16383])
 (.seq (.seq (.region [vM 51 9,
 vP 52 (vc .eql 51 0)])
 (.cond (.s 52) (.region [vM 53 11,
 vM 4 53])
 (.seq (.region [vM 54 11,
 vM 55 5,
 vP 56 (vb .neq 54 55)])
 (.cond (.s 56) (.seq (.region [vP 4 (.mv (vi 0)),
 vP 5 (.mv (vi 0)),
 vP 6 (.mv (vi 0)),
 vP 7 (.mv (vi 21))])
 (.ret))
 (.skip)))))
 (.seq (.region [vM 57 12,
 vM 5 57])
 (.region [vM 58 6,
 vM 59 13,
 vP 60 (vb .add 58 59),
 vM 6 60])))))))
 (.region [vP 61 (vc .add 27 1),
 vM 27 61])))
def k108 : Cd :=
  .seq (.region [vP 4 (.mv (vi 0)),
 vP 5 (.mv (vi 0)),
 vP 6 (.mv (vi 0)),
 vP 7 (.mv (vi 0))])
 (.seq (.seq (.region [vM 14 0,
 vN 15 38 [(.s 14)],
 vM 8 15])
 (.seq (.region [vM 16 8,
 vP 17 (vc .neq 16 0)])
 (.cond (.s 17) (.seq (.region [vM 18 8,
 vP 4 (.mv (vi 0)),
 vP 5 (.mv (vi 0)),
 vP 6 (.mv (vi 0)),
 vM 7 18])
 (.ret))
 (.skip))))
 (.seq (.seq (.region [vM 19 1,
 vP 20 (.len (.s 19)),
 vP 21 (vc .gtr 20 400)])
 (.cond (.s 21) (.seq (.region [vP 4 (.mv (vi 0)),
 vP 5 (.mv (vi 0)),
 vP 6 (.mv (vi 0)),
 vP 7 (.mv (vi 2))])
 (.ret))
 (.skip)))
 (.seq (.seq (.region [vM 22 1,
 vP 23 (.len (.s 22)),
 vP 24 (vc .eql 23 0)])
 (.cond (.s 24) (.seq (.region [vP 4 (.mv (vi 0)),
 vP 5 (.mv (vi 0)),
 vP 6 (.mv (vi 0)),
 vP 7 (.mv (vi 21))])
 (.ret))
 (.skip)))
 (.seq (.seq (.region [vM 25 1,
 vP 26 (.len (.s 25)),
 vP 27 (.mv (vi 0))])
 (.block 0 (.loop k108l0)))
 (.seq (.region [vM 62 4,
 vM 63 5,
 vM 64 6,
 vM 4 62,
 vM 5 63,
 vM 6 64,
 vP 7 (.mv (vi 0))])
 (.ret))))))
def k109 : Cd :=
  .seq (.region [vP 1 (.box 65 2 (.s 0)),
 vP 2 (.mv (.c (.bool false)))])
 (.seq (.region [vP 6 (.ld true 2 (.s 1)),
 vN 7 101 [(.s 6)],
 vM 5 7,
 vP 8 (.ex (.s 5) 0),
 vP 9 (.ex (.s 5) 1),
 vM 3 8,
 vM 4 9])
 (.seq (.region [vM 10 4,
 vP 11 (.bin .neq (.s 10) (.c (.int .i64 (-1)))),
 vM 2 11])
 (.ret)))
def k110l0 : Cd :=
  .seq (.region [vP 11 (vb .lss 10 9)])
 (.seq (.cond (.s 11) (.skip)
 (.exit 0))
 (.seq (.block 1 (.seq (.region [vM 12 10,
 vM 4 12])
 (.seq (.region [vM 13 3,
 vM 14 4,
 vP 15 (.bst 3 1 1 [(.int .i64 0)] [(0, (vi 1000000000))]),
 vM 16 0,
 vP 17 (.len (.s 16)),
 vN 18 141 [(.s 15), (.s 17)],
 vI 19 1 13 14,
 ⟨none, none, .inl (.st 1 (.s 19) (.s 18))⟩])
 (.region [vM 20 3,
 vM 21 4,
 vI 22 1 20 21,
 vL 23 1 22,
 vM 24 4,
 vI 25 1 23 24,
 ⟨none, none, .inl (.st 1 (.s 25) (vi 0))⟩]))))
 (.region [vP 26 (vc .add 10 1),
 vM 10 26])))
def k110 : Cd :=
  .seq (.region [vP 2 (.alloc 90 [(.slice none 0 0), (.slice none 0 0)])])
 (.seq (.region [vM 5 0,
 vP 6 (.len (.s 5)),
 vP 7 (.mks 40 1 24 [(.slice none 0 0)] (.s 6) (.s 6)),
 vM 3 7])
 (.seq (.seq (.region [vM 8 0,
 vP 9 (.len (.s 8)),
 vP 10 (.mv (vi 0))])
 (.block 0 (.loop k110l0)))
 (.seq (.region [vM 27 0,
 vM 28 3,
 vP 29 (.bld [(.slice none 0 0), (.slice none 0 0)] [(0, 1, (.s 27)), (1, 1, (.s 28))]),
 vP 30 (.bld [(.slice none 0 0), (.slice none 0 0)] [(0, 2, (.s 29))]),
 ⟨none, none, .inl (.st 2 (.s 2) (.s 30))⟩])
 (.ret))))
def k111 : Cd :=
  .seq (.region [vP 4 (.box 90 2 (.s 0))])
 (.draw [vD (vF 8 4 0) 0,
 vD (vF 9 8 1) 1,
 vD (vL 10 1 9) 3,
 vD (vM 11 1) 0,
 vD (vI 12 1 10 11) 15,
 vD (vL 13 1 12) 31,
 vD (vM 14 2) 0,
 vD (vF 15 4 0) 0,
 vD (vF 16 15 1) 128,
 vD (vL 17 1 16) 384,
 vD (vM 18 1) 0,
 vD (vI 19 1 17 18) 1920,
 vD (vL 20 1 19) 3968,
 vD (vM 21 2) 0,
 vD (vI 22 1 20 21) 16256,
 vD (vL 23 1 22) 32640,
 vD (vM 24 3) 0,
 vD (vP 25 (.mm false (.s 23) (.s 24))) 130944,
 vD (vI 26 1 13 14) 262143,
 ⟨⟨none, none, .inl (.st 1 (.s 26) (.s 25))⟩, (some [.at 13]), [], 524287, false⟩])
def k112l0 : Cd :=
  .seq (.region [vP 32 (vb .lss 31 30)])
 (.seq (.cond (.s 32) (.skip)
 (.exit 2))
 (.seq (.block 3 (.seq (.region [vM 33 31,
 vM 7 33])
 (.seq (.region [vM 34 4,
 vM 35 7,
 vI 36 1 34 35,
 vL 37 1 36,
 vP 38 (vc .neq 37 1000000000)])
 (.cond (.s 38) (.draw [vD (vM 39 6) 0,
 vD (vM 40 7) 0,
 vD (vM 41 6) 0,
 vD (vM 42 7) 0,
 vD (vI 43 1 41 42) 12,
 vD (vL 44 1 43) 28,
 vD (vM 45 6) 0,
 vD (vM 46 1) 0,
 vD (vI 47 1 45 46) 192,
 vD (vL 48 1 47) 448,
 vD (vM 49 4) 0,
 vD (vM 50 7) 0,
 vD (vI 51 1 49 50) 3072,
 vD (vL 52 1 51) 7168,
 vD (vP 53 (vb .add 48 52)) 16320,
 vD (vP 54 (.mm false (.s 44) (.s 53))) 32764,
 vD (vI 55 1 39 40) 65535,
 ⟨⟨none, none, .inl (.st 1 (.s 55) (.s 54))⟩, (some [.at 6]), [], 131071, false⟩])
 (.skip)))))
 (.region [vP 56 (vc .add 31 1),
 vM 31 56])))
def k112l1 : Cd :=
  .seq (.region [vP 19 (vb .lss 18 17)])
 (.seq (.cond (.s 19) (.skip)
 (.exit 0))
 (.seq (.block 1 (.seq (.region [vI 20 1 16 18,
 vL 21 1 20,
 vM 6 21])
 (.seq (.seq (.region [vM 22 6,
 vM 23 1,
 vI 24 1 22 23,
 vL 25 1 24,
 vP 26 (vc .eql 25 1000000000)])
 (.cond (.s 26) (.exit 1)
 (.skip)))
 (.seq (.region [vF 27 2 0,
 vF 28 27 0,
 vL 29 1 28,
 vP 30 (.len (.s 29)),
 vP 31 (.mv (vi 0))])
 (.block 2 (.loop k112l0))))))
 (.region [vP 57 (vc .add 18 1),
 vM 18 57])))
def k112 : Cd :=
  .seq (.region [vP 2 (.box 90 2 (.s 0))])
 (.seq (.region [vF 8 2 0,
 vF 9 8 1,
 vL 10 1 9,
 vM 11 1,
 vI 12 1 10 11,
 vL 13 1 12,
 vM 4 13])
 (.seq (.region [vF 14 2 0,
 vF 15 14 1,
 vL 16 1 15,
 vP 17 (.len (.s 16)),
 vP 18 (.mv (vi 0))])
 (.block 0 (.loop k112l1))))
def k113l0 : Cd :=
  .seq (.region [vP 14 (vb .lss 13 12)])
 (.seq (.cond (.s 14) (.skip)
 (.exit 0))
 (.seq (.block 1 (.seq (.region [vM 15 13,
 vM 7 15])
 (.seq (.region [vF 16 2 3,
 vL 17 1 16,
 vM 18 7,
 vI 19 1 17 18,
 vL 20 1 19,
 vM 21 20,
 vT 21 22 (.fa (.s 2) 0),
 vT 21 23 (.ld true 2 (.s 22)),
 vT 21 24 (.mv (.s 1)),
 vT 21 25 (.mv (.s 7)),
 ⟨some (21, true), some 26, .inr (.fn 61 [(.s 23), (.s 24), (.s 25)])⟩,
 vT 21 27 (.not (.s 26)),
 vP 28 (.pick (.s 21) (.s 27) (.c (.bool false)))])
 (.cond (.s 28) (.seq (.draw [vD (vM 29 4) 0,
 vD (vF 30 2 2) 0,
 vD (vL 31 1 30) 2,
 vD (vM 32 7) 0,
 vD (vI 33 1 31 32) 14,
 vD (vL 34 1 33) 30,
 vD (vF 35 2 0) 0,
 vD (vF 36 35 0) 64,
 vD (vF 37 36 1) 192,
 vD (vL 38 1 37) 448,
 vD (vM 39 1) 0,
 vD (vI 40 1 38 39) 1984,
 vD (vL 41 1 40) 4032,
 vD (vM 42 7) 0,
 vD (vI 43 1 41 42) 16320,
 vD (vL 44 1 43) 32704,
 vD (vP 45 (vb .sub 34 44)) 65534,
 vD (vP 46 (.mm true (.s 29) (.s 45))) 131071,
 vD (vM 4 46) 262143])
 (.seq (.draw [vD (vM 47 5) 0,
 vD (vF 48 2 2) 0,
 vD (vL 49 1 48) 2,
 vD (vM 50 7) 0,
 vD (vI 51 1 49 50) 14,
 vD (vL 52 1 51) 30,
 vD (vF 53 2 0) 0,
 vD (vF 54 53 0) 64,
 vD (vF 55 54 1) 192,
 vD (vL 56 1 55) 448,
 vD (vM 57 7) 0,
 vD (vI 58 1 56 57) 1984,
 vD (vL 59 1 58) 4032,
 vD (vM 60 1) 0,
 vD (vI 61 1 59 60) 16320,
 vD (vL 62 1 61) 32704,
 vD (vP 63 (vb .add 52 62)) 65534,
 vD (vP 64 (.mm false (.s 47) (.s 63))) 131071,
 vD (vM 5 64) 262143])
 (.region [vP 6 (.mv (.c (.bool false)))])))
 (.skip)))))
 (.region [vP 65 (vc .add 13 1),
 vM 13 65])))
def k113 : Cd :=
  .seq (.region [vP 2 (.box 95 4 (.s 0)),
 vP 4 (.mv (vi 0)),
 vP 5 (.mv (vi 0)),
 vP 6 (.mv (.c (.bool false)))])
 (.seq (.region [vP 4 (.mv (.c (.int .i64 (-1000000000)))),
 vP 5 (.mv (vi 1000000000)),
 vP 6 (.mv (.c (.bool true)))])
 (.seq (.seq (.region [vF 8 2 0,
 vF 9 8 0,
 vF 10 9 0,
 vL 11 1 10,
 vP 12 (.len (.s 11)),
 vP 13 (.mv (vi 0))])
 (.block 0 (.loop k113l0)))
 (.seq (.region [vM 66 4,
 vM 67 5,
 vM 68 6,
 vM 4 66,
 vM 5 67,
 vM 6 68])
 (.ret))))
def k114 : Cd :=
  .seq (.region [vP 6 (.mv (vi 0))])
 (.seq (.seq (.region [vM 8 0,
 vP 9 (.len (.s 8)),
 vP 10 (vc .eql 9 0),
 vM 11 10,
 vU 11 12 (.mv (.s 2)),
 vU 11 13 (vc .lss 12 1),
 vP 14 (.pick (.s 11) (.c (.bool true)) (.s 13))])
 (.cond (.s 14) (.seq (.region [vP 6 (.mv (vi 0))])
 (.ret))
 (.skip)))
 (.seq (.region [vM 15 0,
 vM 16 1,
 vM 17 0,
 vP 18 (.len (.s 17)),
 vP 19 (vb .rem 16 18),
 vI 20 1 15 19,
 vL 21 1 20,
 vM 22 2,
 vP 23 (vb .rem 21 22),
 vM 7 23])
 (.seq (.seq (.region [vM 24 7,
 vP 25 (vc .lss 24 0)])
 (.cond (.s 25) (.region [vM 26 7,
 vM 27 2,
 vP 28 (vb .add 26 27),
 vM 7 28])
 (.skip)))
 (.seq (.region [vM 29 7,
 vM 6 29])
 (.ret)))))
def k116l0 : Cd :=
  .seq (.region [vP 22 (vb .lss 21 20)])
 (.seq (.cond (.s 22) (.skip)
 (.exit 4))
 (.seq (.block 5 (.seq (.region [vM 23 21,
 vM 5 23])
 (.seq (.region [vF 24 1 1,
 vL 25 1 24,
 vM 26 4,
 vI 27 1 25 26,
 vL 28 1 27,
 vM 29 3,
 vI 30 1 28 29,
 vL 31 1 30,
 vP 32 (vc .neq 31 1000000000),
 vM 33 32,
 vT 33 34 (.fa (.s 1) 1),
 vT 33 35 (.ld false 1 (.s 34)),
 vT 33 36 (.mv (.s 3)),
 vT 33 37 (.ias 1 (.s 35) (.s 36)),
 vT 33 38 (.ld false 1 (.s 37)),
 vT 33 39 (.mv (.s 5)),
 vT 33 40 (.ias 1 (.s 38) (.s 39)),
 vT 33 41 (.ld false 1 (.s 40)),
 vT 33 42 (vc .neq 41 1000000000),
 vP 43 (.pick (.s 33) (.s 42) (.c (.bool false)))])
 (.cond (.s 43) (.draw [vD (vF 44 1 1) 0,
 vD (vL 45 1 44) 1,
 vD (vM 46 4) 0,
 vD (vI 47 1 45 46) 7,
 vD (vL 48 1 47) 15,
 vD (vM 49 5) 0,
 vD (vF 50 1 1) 0,
 vD (vL 51 1 50) 64,
 vD (vM 52 4) 0,
 vD (vI 53 1 51 52) 448,
 vD (vL 54 1 53) 960,
 vD (vM 55 5) 0,
 vD (vI 56 1 54 55) 4032,
 vD (vL 57 1 56) 8128,
 vD (vF 58 1 1) 0,
 vD (vL 59 1 58) 16384,
 vD (vM 60 4) 0,
 vD (vI 61 1 59 60) 114688,
 vD (vL 62 1 61) 245760,
 vD (vM 63 3) 0,
 vD (vI 64 1 62 63) 1032192,
 vD (vL 65 1 64) 2080768,
 vD (vF 66 1 1) 0,
 vD (vL 67 1 66) 4194304,
 vD (vM 68 3) 0,
 vD (vI 69 1 67 68) 29360128,
 vD (vL 70 1 69) 62914560,
 vD (vM 71 5) 0,
 vD (vI 72 1 70 71) 264241152,
 vD (vL 73 1 72) 532676608,
 vD (vP 74 (vb .add 65 73)) 1073725440,
 vD (vP 75 (.mm false (.s 57) (.s 74))) 2147483584,
 vD (vI 76 1 48 49) 4294967295,
 ⟨⟨none, none, .inl (.st 1 (.s 76) (.s 75))⟩, (some [.at 48]), [], 8589934591, false⟩])
 (.skip)))))
 (.region [vP 77 (vc .add 21 1),
 vM 21 77])))
def k116l1 : Cd :=
  .seq (.region [vP 16 (vb .lss 15 14)])
 (.seq (.cond (.s 16) (.skip)
 (.exit 2))
 (.seq (.block 3 (.seq (.region [vM 17 15,
 vM 4 17])
 (.seq (.seq (.region [vF 18 1 0,
 vL 19 1 18,
 vP 20 (.len (.s 19)),
 vP 21 (.mv (vi 0))])
 (.block 4 (.loop k116l0)))
 (.seq (.region [vF 78 1 1,
 vL 79 1 78,
 vM 80 4,
 vI 81 1 79 80,
 vL 82 1 81,
 vM 83 4,
 vI 84 1 82 83,
 vL 85 1 84,
 vP 86 (vc .lss 85 0)])
 (.cond (.s 86) (.seq (.region [vP 2 (.mv (.c (.bool false)))])
 (.ret))
 (.skip))))))
 (.region [vP 87 (vc .add 15 1),
 vM 15 87])))
def k116l2 : Cd :=
  .seq (.region [vP 10 (vb .lss 9 8)])
 (.seq (.cond (.s 10) (.skip)
 (.exit 0))
 (.seq (.block 1 (.seq (.region [vM 11 9,
 vM 3 11])
 (.seq (.region [vF 12 1 0,
 vL 13 1 12,
 vP 14 (.len (.s 13)),
 vP 15 (.mv (vi 0))])
 (.block 2 (.loop k116l1)))))
 (.region [vP 88 (vc .add 9 1),
 vM 9 88])))
def k116 : Cd :=
  .seq (.region [vP 1 (.box 88 2 (.s 0)),
 vP 2 (.mv (.c (.bool false)))])
 (.seq (.seq (.region [vF 6 1 0,
 vL 7 1 6,
 vP 8 (.len (.s 7)),
 vP 9 (.mv (vi 0))])
 (.block 0 (.loop k116l2)))
 (.seq (.region [vP 2 (.mv (.c (.bool true)))])
 (.ret)))
def k117l0 : Cd :=
  .seq (.region [vP 9 (vb .lss 8 7)])
 (.seq (.cond (.s 9) (.skip)
 (.exit 0))
 (.seq (.block 1 (.seq (.region [vM 10 8,
 vM 5 10])
 (.seq (.region [vM 11 1,
 vM 12 0,
 vM 13 5,
 vI 14 1 12 13,
 vL 15 1 14,
 ⟨none, some 16, .inr (.val false (.s 11) [(.s 15)])⟩])
 (.cond (.s 16) (.seq (.region [vM 17 5,
 vM 4 17])
 (.ret))
 (.skip)))))
 (.region [vP 18 (vc .add 8 1),
 vM 8 18])))
def k117 : Cd :=
  .seq (.region [vP 4 (.mv (vi 0))])
 (.seq (.seq (.region [vM 6 0,
 vP 7 (.len (.s 6)),
 vP 8 (.mv (vi 0))])
 (.block 0 (.loop k117l0)))
 (.seq (.region [vP 4 (.mv (.c (.int .i64 (-1))))])
 (.ret)))
def k122 : Cd :=
  .seq (.region [vP 2 (.mv (.c (.slice none 0 0)))])
 (.seq (.region [vM 3 0,
 vN 4 148 [(.s 3)]])
 (.seq (.region [vM 5 0,
 vN 6 149 [(.s 5)],
 vM 2 6])
 (.ret)))
def k123l0 : Cd :=
  .seq (.region [vP 9 (vb .lss 8 7)])
 (.seq (.cond (.s 9) (.skip)
 (.exit 0))
 (.seq (.block 1 (.seq (.region [vM 10 8,
 vM 5 10])
 (.seq (.region [vM 11 1,
 vM 12 0,
 vM 13 5,
 vI 14 1 12 13,
 vL 15 1 14,
 vP 16 (vb .eql 11 15)])
 (.cond (.s 16) (.seq (.region [vM 17 5,
 vM 4 17])
 (.ret))
 (.skip)))))
 (.region [vP 18 (vc .add 8 1),
 vM 8 18])))
def k123 : Cd :=
  .seq (.region [vP 4 (.mv (vi 0))])
 (.seq (.seq (.region [vM 6 0,
 vP 7 (.len (.s 6)),
 vP 8 (.mv (vi 0))])
 (.block 0 (.loop k123l0)))
 (.seq (.region [vP 4 (.mv (.c (.int .i64 (-1))))])
 (.ret)))
def k124 : Cd :=
  .seq (.region [vP 3 (.mv (.c (.bool false)))])
 (.seq (.draw [vD (vF 4 1 1) 0,
 vD (vL 5 1 4) 1,
 vD (vF 6 1 0) 0,
 vD (vL 7 1 6) 4,
 vD (vM 8 0) 0,
 vD (vI 9 5 7 8) 28,
 vD (vF 10 9 4) 60,
 vD (vL 11 1 10) 124,
 vD (vP 12 (.lk .int (.bool false) false (.s 5) (.s 11))) 255,
 vD (vM 3 12) 511])
 (.ret))
def k125l0 : Cd :=
  .seq (.region [vP 9 (vb .lss 8 7)])
 (.seq (.cond (.s 9) (.skip)
 (.exit 0))
 (.seq (.block 1 (.seq (.region [vM 10 8,
 vM 5 10])
 (.seq (.region [vM 11 1,
 vM 12 0,
 vM 13 5,
 vI 14 5 12 13,
 vP 15 (.ld true 5 (.s 14)),
 ⟨none, some 16, .inr (.val false (.s 11) [(.s 15)])⟩])
 (.cond (.s 16) (.seq (.region [vM 17 5,
 vM 4 17])
 (.ret))
 (.skip)))))
 (.region [vP 18 (vc .add 8 1),
 vM 8 18])))
def k125 : Cd :=
  .seq (.region [vP 4 (.mv (vi 0))])
 (.seq (.seq (.region [vM 6 0,
 vP 7 (.len (.s 6)),
 vP 8 (.mv (vi 0))])
 (.block 0 (.loop k125l0)))
 (.seq (.region [vP 4 (.mv (.c (.int .i64 (-1))))])
 (.ret)))
def k126 : Cd :=
  .seq (.region [vP 2 (.mv (.c (.bool false)))])
 (.seq (.region [vM 3 0,
 vM 4 0,
 vP 5 (vb .neq 3 4),
 vM 2 5])
 (.ret))
def k138l0 : Cd :=
  .seq (.region [vP 9 (vb .lss 8 7)])
 (.seq (.cond (.s 9) (.skip)
 (.exit 0))
 (.seq (.block 1 (.seq (.region [vI 10 5 6 8,
 vP 11 (.ld true 5 (.s 10)),
 vP 5 (.alloc 70 [(.int .i64 0), (.int .i64 0), (.int .i64 0), (.int .i64 0), (.int .i64 0)]),
 ⟨none, none, .inl (.st 5 (.s 5) (.s 11))⟩])
 (.seq (.region [vM 12 0,
 vF 13 5 0,
 vL 14 1 13,
 vN 15 168 [(.s 12), (.s 14)]])
 (.region [vM 16 0,
 vF 17 5 1,
 vL 18 1 17,
 vN 19 168 [(.s 16), (.s 18)]]))))
 (.region [vP 20 (vc .add 8 1),
 vM 8 20])))
def k138 : Cd :=
  .seq (.region [vM 6 1,
 vP 7 (.len (.s 6)),
 vP 8 (.mv (vi 0))])
 (.block 0 (.loop k138l0))
def k139l0 : Cd :=
  .seq (.seq (.region [vM 14 5,
 vP 15 (.bin .neq (.s 14) (.c (.int .u64 0)))])
 (.cond (.s 15) (.skip)
 (.exit 2)))
 (.seq (.block 3 (.region [vM 20 3,
 vM 21 4,
 vP 22 (.bin .mul (vi 64) (.s 21)),
 vM 23 5,
 vN 24 169 [(.s 23)],
 vP 25 (vb .add 22 24),
 vP 26 (.bs 3 1 1 [(.int .i64 0)] [(0, (.s 25))]),
 vP 27 (.app 3 1 8 (.s 20) (.s 26)),
 vM 3 27]))
 (.region [vM 16 5,
 vM 17 5,
 vP 18 (.bin .sub (.s 17) (.c (.int .u64 1))),
 vP 19 (vb .and 16 18),
 vM 5 19]))
def k139l1 : Cd :=
  .seq (.region [vP 11 (vc .lss 10 33)])
 (.seq (.cond (.s 11) (.skip)
 (.exit 0))
 (.seq (.block 1 (.seq (.region [vM 12 10,
 vP 13 (.ixa false 1 33 (.s 9) (.s 10)),
 vM 4 12,
 vM 5 13])
 (.block 2 (.loop k139l0))))
 (.region [vP 28 (vc .add 10 1),
 vM 10 28])))
def k139 : Cd :=
  .seq (.region [vP 2 (.mv (.c (.slice none 0 0)))])
 (.seq (.region [vP 3 (.mv (.c (.slice none 0 0)))])
 (.seq (.seq (.region [vM 6 0,
 vP 7 (.nc (.s 6)),
 vF 8 7 0,
 vP 9 (.ld true 33 (.s 8)),
 vP 10 (.mv (vi 0))])
 (.block 0 (.loop k139l1)))
 (.seq (.region [vM 29 3,
 vM 2 29])
 (.ret))))
def k140l0 : Cd :=
  .seq (.seq (.region [vM 13 7,
 vM 14 8,
 vP 15 (vb .lss 13 14)])
 (.cond (.s 15) (.skip)
 (.exit 0)))
 (.block 1 (.seq (.region [vM 16 7,
 vM 17 8,
 vP 18 (vb .add 16 17),
 vP 19 (.cvi .u64 (.s 18)),
 vP 20 (.bin .shr (.s 19) (.c (.int .u64 1))),
 vP 21 (.cvi .i64 (.s 20)),
 vM 9 21])
 (.seq (.region [vM 22 0,
 vM 23 9,
 vI 24 1 22 23,
 vL 25 1 24,
 vM 26 1,
 vN 27 170 [(.s 25), (.s 26)]])
 (.cond (.s 27) (.region [vM 28 9,
 vP 29 (vc .add 28 1),
 vM 7 29])
 (.region [vM 30 9,
 vM 8 30])))))
def k140 : Cd :=
  .seq (.region [vP 4 (.mv (vi 0)),
 vP 5 (.mv (.c (.bool false)))])
 (.seq (.region [vM 10 0,
 vP 11 (.len (.s 10)),
 vM 6 11])
 (.seq (.region [vM 12 6,
 vP 7 (.mv (vi 0)),
 vM 8 12])
 (.seq (.block 0 (.loop k140l0))
 (.seq (.region [vM 31 7,
 vM 32 7,
 vM 33 6,
 vP 34 (vb .lss 32 33),
 vM 35 34,
 vT 35 36 (.mv (.s 0)),
 vT 35 37 (.mv (.s 7)),
 vT 35 38 (.ias 1 (.s 36) (.s 37)),
 vT 35 39 (.ld false 1 (.s 38)),
 vT 35 40 (.mv (.s 1)),
 vT 35 41 (vb .eql 39 40),
 vT 35 42 (.mv (.s 41)),
 vU 42 43 (.mv (.s 0)),
 vU 42 44 (.mv (.s 7)),
 vU 42 45 (.ias 1 (.s 43) (.s 44)),
 vU 42 46 (.ld false 1 (.s 45)),
 ⟨some (42, false), some 47, .inr (.fn 171 [(.s 46)])⟩,
 vU 42 48 (.mv (.s 47)),
 vT 48 49 (.mv (.s 1)),
 ⟨some (48, true), some 50, .inr (.fn 171 [(.s 49)])⟩,
 vU 42 51 (.pick (.s 48) (.s 50) (.c (.bool false))),
 vT 35 52 (.pick (.s 42) (.c (.bool true)) (.s 51)),
 vP 53 (.pick (.s 35) (.s 52) (.c (.bool false))),
 vM 4 31,
 vM 5 53])
 (.ret)))))
def k141l0 : Cd :=
  .seq (.seq (.region [vM 34 8,
 vM 35 7,
 vP 36 (.len (.s 35)),
 vP 37 (vb .lss 34 36)])
 (.cond (.s 37) (.skip)
 (.exit 0)))
 (.block 1 (.draw [vD (vM 38 8) 0,
 vD (vM 39 7) 0,
 vD (vM 40 8) 0,
 vD (vP 41 (.slc 1 (.s 39) (some (.s 40)) none none)) 6,
 vD (vM 42 7) 0,
 vD (vM 43 8) 0,
 vD (vP 44 (.slc 1 (.s 42) none (some (.s 43)) none)) 48,
 ⟨vP 45 (.cpy 1 (.s 41) (.s 44)), (some [.at 7]), [], 126, false⟩,
 vD (vP 46 (vb .add 38 45)) 255,
 vD (vM 8 46) 511]))
def k141 : Cd :=
  .seq (.region [vP 4 (.mv (.c (.slice none 0 0)))])
 (.seq (.seq (.region [vM 9 1,
 vP 10 (vc .lss 9 0)])
 (.cond (.s 10) (.region [⟨none, some 11, .inl (.mki 9 (.c (.string ⟨#[99, 97, 110, 110, 111, 116, 32, 98, 101, 32, 110, 101, 103, 97, 116, 105, 118, 101]⟩)))⟩,
 ⟨none, none, .inr (.pan (.s 11))⟩])
 (.skip)))
 (.seq (.region [vM 13 0,
 vP 14 (.len (.s 13)),
 vP 15 (.cvi .u64 (.s 14)),
 vM 16 1,
 vP 17 (.cvi .u64 (.s 16)),
 vN 18 172 [(.s 15), (.s 17)],
 vM 12 18,
 vP 19 (.ex (.s 12) 0),
 vP 20 (.ex (.s 12) 1),
 vM 5 19,
 vM 6 20])
 (.seq (.seq (.region [vM 21 5,
 vP 22 (.bin .gtr (.s 21) (.c (.int .u64 0))),
 vM 23 22,
 vU 23 24 (.mv (.s 6)),
 vU 23 25 (.bin .gtr (.s 24) (.c (.int .u64 9223372036854775807))),
 vP 26 (.pick (.s 23) (.c (.bool true)) (.s 25))])
 (.cond (.s 26) (.region [⟨none, some 27, .inl (.mki 9 (.c (.string ⟨#[116, 104, 101, 32, 114, 101, 115, 117, 108, 116, 32, 111, 102, 32, 40, 108, 101, 110, 40, 120, 41, 32, 42, 32, 99, 111, 117, 110, 116, 41, 32, 111, 118, 101, 114, 102, 108, 111, 119, 115]⟩)))⟩,
 ⟨none, none, .inr (.pan (.s 27))⟩])
 (.skip)))
 (.seq (.region [vM 28 6,
 vP 29 (.cvi .i64 (.s 28)),
 vP 30 (.mks 3 1 8 [(.int .i64 0)] (.s 29) (.s 29)),
 vM 7 30])
 (.seq (.region [vM 31 7,
 vM 32 0,
 vP 33 (.cpy 1 (.s 31) (.s 32)),
 vM 8 33])
 (.seq (.block 0 (.loop k141l0))
 (.seq (.region [vM 47 7,
 vM 4 47])
 (.ret))))))))
def k142l0 : Cd :=
  .seq (.region [vP 31 (vb .lss 30 29)])
 (.seq (.cond (.s 31) (.skip)
 (.exit 2))
 (.seq (.block 3 (.seq (.region [vI 32 5 28 30,
 vP 33 (.ld true 5 (.s 32)),
 vP 8 (.alloc 148 [(.int .i64 0), (.bool false), (.int .i64 0), (.int .i64 0), (.int .i64 0)]),
 ⟨none, none, .inl (.st 5 (.s 8) (.s 33))⟩])
 (.seq (.seq (.region [vM 34 5,
 vF 35 2 2,
 vL 36 1 35,
 vI 37 1 34 36,
 vL 38 1 37,
 vP 39 (.bin .neq (.s 38) (.c (.int .i64 (-1))))])
 (.cond (.s 39) (.exit 0)
 (.skip)))
 (.seq (.region [vM 40 5,
 vF 41 8 3,
 vL 42 1 41,
 vI 43 1 40 42,
 vL 44 1 43,
 vM 45 6,
 vP 46 (vb .eql 44 45),
 vM 47 46,
 vT 47 48 (.mv (.s 5)),
 vT 47 49 (.fa (.s 8) 2),
 vT 47 50 (.ld false 1 (.s 49)),
 vT 47 51 (.ias 1 (.s 48) (.s 50)),
 vT 47 52 (.ld false 1 (.s 51)),
 vT 47 53 (.bin .eql (.s 52) (.c (.int .i64 (-1)))),
 vP 54 (.pick (.s 47) (.s 53) (.c (.bool false))),
 vM 55 54,
 vT 55 56 (.ld true 4 (.s 2)),
 vT 55 57 (.ld true 5 (.s 8)),
 ⟨some (55, true), some 58, .inr (.fn 145 [(.s 56), (.s 57)])⟩,
 vP 59 (.pick (.s 55) (.s 58) (.c (.bool false)))])
 (.cond (.s 59) (.region [vM 60 5,
 vF 61 8 2,
 vL 62 1 61,
 vM 63 6,
 vP 64 (vc .add 63 1),
 vI 65 1 60 62,
 ⟨none, none, .inl (.st 1 (.s 65) (.s 64))⟩])
 (.skip))))))
 (.region [vP 66 (vc .add 30 1),
 vM 30 66])))
def k142l1 : Cd :=
  .seq (.region [vP 26 (vb .lss 25 24)])
 (.seq (.cond (.s 26) (.skip)
 (.exit 0))
 (.seq (.block 1 (.seq (.region [vM 27 25,
 vM 6 27])
 (.seq (.region [vM 28 1,
 vP 29 (.len (.s 28)),
 vP 30 (.mv (vi 0))])
 (.block 2 (.loop k142l0)))))
 (.region [vP 67 (vc .add 25 1),
 vM 25 67])))
def k142 : Cd :=
  .seq (.region [vP 2 (.box 106 4 (.s 0)),
 vP 4 (.mv (.c (.slice none 0 0)))])
  (.scope (.seq (.region [vP 9 (.bst 3 1 1 [(.int .i64 0)] [(0, (.c (.int .i64 (-1))))]),
 vF 10 2 0,
 vF 11 10 0,
 vF 12 11 0,
 vL 13 1 12,
 vP 14 (.len (.s 13)),
 vN 15 141 [(.s 9), (.s 14)],
 vM 5 15])
 (.seq (.region [vM 16 5,
 vF 17 2 3,
 vL 18 1 17,
 vI 19 1 16 18,
 ⟨none, none, .inl (.st 1 (.s 19) (vi 0))⟩])
 (.seq (.skip)
 (.seq (.seq (.region [vF 20 2 0,
 vF 21 20 0,
 vF 22 21 0,
 vL 23 1 22,
 vP 24 (.len (.s 23)),
 vP 25 (.mv (vi 0))])
 (.block 0 (.loop k142l1)))
 (.seq (.region [vM 68 5,
 vM 4 68])
 (.ret)))))))
def k143l0 : Cd :=
  .seq (.region [vP 9 (vb .lss 8 7)])
 (.seq (.cond (.s 9) (.skip)
 (.exit 0))
 (.seq (.block 1 (.seq (.region [vM 10 8,
 vM 5 10])
 (.seq (.region [vM 11 1,
 vM 12 0,
 vM 13 5,
 vI 14 5 12 13,
 vP 15 (.ld true 5 (.s 14)),
 ⟨none, some 16, .inr (.val false (.s 11) [(.s 15)])⟩])
 (.cond (.s 16) (.seq (.region [vM 17 5,
 vM 4 17])
 (.ret))
 (.skip)))))
 (.region [vP 18 (vc .add 8 1),
 vM 8 18])))
def k143 : Cd :=
  .seq (.region [vP 4 (.mv (vi 0))])
 (.seq (.seq (.region [vM 6 0,
 vP 7 (.len (.s 6)),
 vP 8 (.mv (vi 0))])
 (.block 0 (.loop k143l0)))
 (.seq (.region [vP 4 (.mv (.c (.int .i64 (-1))))])
 (.ret)))
def k144 : Cd :=
  .seq (.region [vP 4 (.box 148 5 (.s 0)),
 vP 5 (.mv (.c (.bool false)))])
 (.seq (.draw [vD (vF 6 4 2) 0,
 vD (vL 7 1 6) 1,
 vD (vL 8 1 1) 0,
 vD (vP 9 (vb .eql 7 8)) 7,
 vD (vM 10 9) 15,
 vD (vT 10 11 (.ld false 1 (.s 2))) 31,
 vD (vT 10 12 (.fa (.s 4) 3)) 31,
 vD (vT 10 13 (.ld false 1 (.s 12))) 95,
 vD (vT 10 14 (.ias 1 (.s 11) (.s 13))) 255,
 vD (vT 10 15 (.ld false 1 (.s 14))) 511,
 vD (vT 10 16 (.ld false 1 (.s 2))) 31,
 vD (vT 10 17 (.ld false 1 (.s 1))) 31,
 vD (vT 10 18 (.ias 1 (.s 16) (.s 17))) 3103,
 vD (vT 10 19 (.ld false 1 (.s 18))) 7199,
 vD (vT 10 20 (vc .sub 19 1)) 15391,
 vD (vT 10 21 (vb .eql 15 20)) 32767,
 vD (vP 22 (.pick (.s 10) (.s 21) (.c (.bool false)))) 65535,
 vD (vM 23 22) 131071,
 vD (vT 23 24 (.ld true 4 (.s 3))) 262143,
 vD (vT 23 25 (.ld true 5 (.s 4))) 262143,
 ⟨⟨some (23, true), some 26, .inr (.fn 145 [(.s 24), (.s 25)])⟩, some [], [], 1048575, false⟩,
 vD (vP 27 (.pick (.s 23) (.s 26) (.c (.bool false)))) 2097151,
 vD (vM 5 27) 4194303])
 (.ret))
def k145 : Cd :=
  .seq (.region [vP 2 (.box 106 4 (.s 0)),
 vP 3 (.box 148 5 (.s 1)),
 vP 4 (.mv (.c (.bool false)))])
 (.seq (.draw [vD (vF 5 2 0) 0,
 vD (vF 6 5 0) 1,
 vD (vF 7 6 1) 3,
 vD (vL 8 1 7) 7,
 vD (vF 9 3 2) 0,
 vD (vL 10 1 9) 16,
 vD (vI 11 1 8 10) 63,
 vD (vL 12 1 11) 127,
 vD (vF 13 2 3) 0,
 vD (vL 14 1 13) 256,
 vD (vI 15 1 12 14) 1023,
 vD (vL 16 1 15) 2047,
 vD (vF 17 3 4) 0,
 vD (vL 18 1 17) 4096,
 vD (vF 19 2 0) 0,
 vD (vF 20 19 0) 16384,
 vD (vF 21 20 1) 49152,
 vD (vL 22 1 21) 114688,
 vD (vF 23 3 3) 0,
 vD (vL 24 1 23) 262144,
 vD (vI 25 1 22 24) 1032192,
 vD (vL 26 1 25) 2080768,
 vD (vF 27 2 3) 0,
 vD (vL 28 1 27) 4194304,
 vD (vI 29 1 26 28) 16760832,
 vD (vL 30 1 29) 33538048,
 vD (vP 31 (vb .add 18 30)) 67104768,
 vD (vP 32 (vb .eql 16 31)) 134217727,
 vD (vM 4 32) 268435455])
 (.ret))
def k146l0 : Cd :=
  .seq (.seq (.region [vM 7 3,
 vP 8 (vc .geq 7 0)])
 (.cond (.s 8) (.skip)
 (.exit 0)))
 (.seq (.block 1 (.seq (.region [vM 11 0,
 vM 12 3,
 vL 13 1 1,
 vM 14 3,
 vI 15 1 13 14,
 vL 16 1 15,
 ⟨none, some 17, .inr (.val false (.s 11) [(.s 12), (.s 16)])⟩,
 vP 18 (.not (.s 17))])
 (.cond (.s 18) (.ret)
 (.skip))))
 (.region [vM 9 3,
 vP 10 (vc .sub 9 1),
 vM 3 10]))
def k146 : Cd :=
  .seq (.region [vL 4 1 1,
 vP 5 (.len (.s 4)),
 vP 6 (vc .sub 5 1),
 vM 3 6])
 (.block 0 (.loop k146l0))
def k147 : Cd :=
  .seq (.region [vP 2 (.box 70 5 (.s 0)),
 vP 4 (.mv (vi 0)),
 vP 5 (.mv (vi 0)),
 vP 6 (.mv (vi 0))])
 (.seq (.seq (.region [vM 7 1])
 (.cond (.s 7) (.seq (.draw [vD (vF 8 2 1) 0,
 vD (vL 9 1 8) 1,
 vD (vF 10 2 0) 0,
 vD (vL 11 1 10) 4,
 vD (vF 12 2 2) 0,
 vD (vL 13 1 12) 16,
 vD (vP 14 (.neg (.s 13))) 48,
 vD (vM 4 9) 3,
 vD (vM 5 11) 143,
 vD (vM 6 14) 511])
 (.ret))
 (.skip)))
 (.seq (.draw [vD (vF 15 2 0) 0,
 vD (vL 16 1 15) 1,
 vD (vF 17 2 1) 0,
 vD (vL 18 1 17) 4,
 vD (vF 19 2 3) 0,
 vD (vL 20 1 19) 16,
 vD (vM 4 16) 3,
 vD (vM 5 18) 79,
 vD (vM 6 20) 255])
 (.ret)))
def k148 : Cd :=
  .seq (.region [vM 3 0,
 vP 4 (.len (.s 3)),
 vM 2 4])
 (.region [vM 5 0,
 vM 6 2,
 vM 7 2,
 vP 8 (.cvi .u64 (.s 7)),
 vN 9 174 [(.s 8)],
 vN 10 173 [(.s 5), (vi 0), (.s 6), (.s 9)]])
def k149l0 : Cd :=
  .seq (.seq (.region [vM 29 5,
 vM 30 4,
 vP 31 (.len (.s 30)),
 vP 32 (vb .lss 29 31)])
 (.cond (.s 32) (.skip)
 (.exit 2)))
 (.seq (.block 3 (.seq (.draw [vD (vM 35 4) 0,
 vD (vM 36 5) 0,
 vD (vI 37 1 35 36) 3,
 vD (vL 38 1 37) 7,
 vD (vM 39 4) 0,
 vD (vM 40 5) 0,
 vD (vP 41 (vc .sub 40 1)) 32,
 vD (vI 42 1 39 41) 112,
 vD (vL 43 1 42) 240,
 vD (vP 44 (vb .neq 38 43)) 511])
 (.cond (.s 44) (.seq (.region [vM 45 0,
 vM 46 3,
 vM 47 4,
 vM 48 5,
 vI 49 1 47 48,
 vL 50 1 49,
 vI 51 1 45 46,
 ⟨none, none, .inl (.st 1 (.s 51) (.s 50))⟩])
 (.region [vM 52 3,
 vP 53 (vc .add 52 1),
 vM 3 53]))
 (.skip))))
 (.region [vM 33 5,
 vP 34 (vc .add 33 1),
 vM 5 34]))
def k149l1 : Cd :=
  .seq (.seq (.region [vM 10 3,
 vM 11 0,
 vP 12 (.len (.s 11)),
 vP 13 (vb .lss 10 12)])
 (.cond (.s 13) (.skip)
 (.exit 0)))
 (.seq (.block 1 (.seq (.draw [vD (vM 16 0) 0,
 vD (vM 17 3) 0,
 vD (vI 18 1 16 17) 3,
 vD (vL 19 1 18) 7,
 vD (vM 20 0) 0,
 vD (vM 21 3) 0,
 vD (vP 22 (vc .sub 21 1)) 32,
 vD (vI 23 1 20 22) 112,
 vD (vL 24 1 23) 240,
 vD (vP 25 (vb .eql 19 24)) 511])
 (.cond (.s 25) (.seq (.region [vM 26 0,
 vM 27 3,
 vP 28 (.slc 1 (.s 26) (some (.s 27)) none none),
 vM 4 28])
 (.seq (.seq (.region [vP 5 (.mv (vi 1))])
 (.block 2 (.loop k149l0)))
 (.seq (.region [vM 54 0,
 vM 55 3,
 vP 56 (.slc 1 (.s 54) (some (.s 55)) none none),
 ⟨none, none, .inl (.clr [(.int .i64 0)] (.s 56))⟩])
 (.seq (.region [vM 57 0,
 vM 58 3,
 vP 59 (.slc 1 (.s 57) none (some (.s 58)) none),
 vM 2 59])
 (.ret)))))
 (.skip))))
 (.region [vM 14 3,
 vP 15 (vc .add 14 1),
 vM 3 15]))
def k149 : Cd :=
  .seq (.region [vP 2 (.mv (.c (.slice none 0 0)))])
 (.seq (.seq (.region [vM 6 0,
 vP 7 (.len (.s 6)),
 vP 8 (vc .lss 7 2)])
 (.cond (.s 8) (.seq (.region [vM 9 0,
 vM 2 9])
 (.ret))
 (.skip)))
 (.seq (.seq (.region [vP 3 (.mv (vi 1))])
 (.block 0 (.loop k149l1)))
 (.seq (.region [vM 60 0,
 vM 2 60])
 (.ret))))
def k168 : Cd :=
  .draw [vD (vM 4 0) 0,
 vD (vM 5 1) 0,
 vD (vP 6 (vc .quo 5 64)) 2,
 vD (vP 7 (.nc (.s 4))) 1,
 vD (vF 8 7 0) 9,
 vD (vP 9 (.iaa 33 1 (.s 8) (.s 6))) 31,
 vD (vL 10 1 9) 63,
 vD (vM 11 1) 0,
 vD (vP 12 (vc .rem 11 64)) 128,
 vD (vP 13 (.bin .shl (.c (.int .u64 1)) (.s 12))) 384,
 vD (vP 14 (vb .or 10 13)) 1023,
 vD (vP 15 (.nc (.s 4))) 1,
 vD (vF 16 15 0) 2049,
 vD (vP 17 (.iaa 33 1 (.s 16) (.s 6))) 8191,
 ⟨⟨none, none, .inl (.st 1 (.s 17) (.s 14))⟩, (some [.at 0]), [], 16383, false⟩]
def k169 : Cd :=
  .seq (.region [vP 2 (.mv (vi 0))])
 (.seq (.seq (.region [vM 3 0,
 vP 4 (.bin .eql (.s 3) (.c (.int .u64 0)))])
 (.cond (.s 4) (.seq (.region [vP 2 (.mv (vi 64))])
 (.ret))
 (.skip)))
 (.seq (.region [vM 5 0,
 vM 6 0,
 vP 7 (.neg (.s 6)),
 vP 8 (vb .and 5 7),
 vP 9 (.bin .mul (.s 8) (.c (.int .u64 285870213051353865))),
 vP 10 (.bin .shr (.s 9) (.c (.int .u64 58))),
 vP 11 (.iaa 64 1 (.g 1) (.s 10)),
 vL 12 1 11,
 vP 13 (.cvi .i64 (.s 12)),
 vM 2 13])
 (.ret)))
def k170 : Cd :=
  .seq (.region [vP 4 (.mv (.c (.bool false)))])
 (.seq (.region [vM 5 0,
 vN 6 126 [(.s 5)],
 vM 7 6,
 vT 7 8 (.mv (.s 1)),
 ⟨some (7, true), some 9, .inr (.fn 126 [(.s 8)])⟩,
 vT 7 10 (.not (.s 9)),
 vP 11 (.pick (.s 7) (.s 10) (.c (.bool false))),
 vM 12 11,
 vU 12 13 (.mv (.s 0)),
 vU 12 14 (.mv (.s 1)),
 vU 12 15 (vb .lss 13 14),
 vP 16 (.pick (.s 12) (.c (.bool true)) (.s 15)),
 vM 4 16])
 (.ret))
def k171 : Cd :=
  .seq (.region [vP 2 (.mv (.c (.bool false)))])
 (.seq (.region [vM 3 0,
 vM 4 0,
 vP 5 (vb .neq 3 4),
 vM 2 5])
 (.ret))
def k172 : Cd :=
  .seq (.region [vP 4 (.mv (.c (.int .u64 0))),
 vP 5 (.mv (.c (.int .u64 0)))])
 (.seq (.cond (.c (.bool false)) (.seq (.region [vM 11 0,
 vP 12 (.cvi .u32 (.s 11)),
 vM 13 1,
 vP 14 (.cvi .u32 (.s 13)),
 vN 15 192 [(.s 12), (.s 14)],
 vM 10 15,
 vP 16 (.ex (.s 10) 0),
 vP 17 (.ex (.s 10) 1),
 vM 6 16,
 vM 7 17])
 (.seq (.region [vM 18 6,
 vP 19 (.cvi .u64 (.s 18)),
 vM 20 7,
 vP 21 (.cvi .u64 (.s 20)),
 vM 4 19,
 vM 5 21])
 (.ret)))
 (.skip))
 (.seq (.region [vM 23 0,
 vM 24 1,
 vN 25 193 [(.s 23), (.s 24)],
 vM 22 25,
 vP 26 (.ex (.s 22) 0),
 vP 27 (.ex (.s 22) 1),
 vM 8 26,
 vM 9 27])
 (.seq (.region [vM 28 8,
 vM 29 9,
 vM 4 28,
 vM 5 29])
 (.ret))))
def k173l0 : Cd :=
  .block 1 (.seq (.region [vM 19 2,
 vM 20 1,
 vP 21 (vb .sub 19 20),
 vM 10 21])
 (.seq (.seq (.region [vM 22 10,
 vP 23 (vc .leq 22 12)])
 (.cond (.s 23) (.seq (.region [vM 24 0,
 vM 25 1,
 vM 26 2,
 vN 27 194 [(.s 24), (.s 25), (.s 26)]])
 (.ret))
 (.skip)))
 (.seq (.seq (.region [vM 28 3,
 vP 29 (vc .eql 28 0)])
 (.cond (.s 29) (.seq (.region [vM 30 0,
 vM 31 1,
 vM 32 2,
 vN 33 195 [(.s 30), (.s 31), (.s 32)]])
 (.ret))
 (.skip)))
 (.seq (.seq (.region [vM 34 8,
 vP 35 (.not (.s 34))])
 (.cond (.s 35) (.seq (.region [vM 36 0,
 vM 37 1,
 vM 38 2,
 vN 39 196 [(.s 36), (.s 37), (.s 38)]])
 (.region [vM 40 3,
 vP 41 (vc .sub 40 1),
 vM 3 41]))
 (.skip)))
 (.seq (.region [vM 43 0,
 vM 44 1,
 vM 45 2,
 vN 46 197 [(.s 43), (.s 44), (.s 45)],
 vM 42 46,
 vP 47 (.ex (.s 42) 0),
 vP 48 (.ex (.s 42) 1),
 vM 11 47,
 vM 12 48])
 (.seq (.seq (.region [vM 49 12,
 vP 50 (vc .eql 49 2)])
 (.cond (.s 50) (.seq (.region [vM 51 0,
 vM 52 1,
 vM 53 2,
 vN 54 198 [(.s 51), (.s 52), (.s 53)]])
 (.seq (.region [vM 55 2,
 vP 56 (vc .sub 55 1),
 vM 57 11,
 vM 58 1,
 vP 59 (vb .sub 57 58),
 vP 60 (vb .sub 56 59),
 vM 11 60])
 (.region [vP 12 (.mv (vi 1))])))
 (.skip)))
 (.seq (.seq (.region [vM 61 8,
 vM 62 61,
 vT 62 63 (.mv (.s 9)),
 vP 64 (.pick (.s 62) (.s 63) (.c (.bool false))),
 vM 65 64,
 vT 65 66 (.mv (.s 12)),
 vT 65 67 (vc .eql 66 1),
 vP 68 (.pick (.s 65) (.s 67) (.c (.bool false)))])
 (.cond (.s 68) (.seq (.region [vM 69 0,
 vM 70 1,
 vM 71 2,
 vN 72 199 [(.s 69), (.s 70), (.s 71)]])
 (.cond (.s 72) (.ret)
 (.skip)))
 (.skip)))
 (.seq (.seq (.draw [vD (vM 73 1) 0,
 vD (vP 74 (vc .gtr 73 0)) 1,
 vD (vM 75 74) 3,
 vD (vT 75 76 (.mv (.s 0))) 7,
 vD (vT 75 77 (.mv (.s 1))) 7,
 vD (vT 75 78 (vc .sub 77 1)) 23,
 vD (vT 75 79 (.ias 1 (.s 76) (.s 78))) 63,
 vD (vT 75 80 (.ld false 1 (.s 79))) 127,
 vD (vT 75 81 (.mv (.s 0))) 7,
 vD (vT 75 82 (.mv (.s 11))) 7,
 vD (vT 75 83 (.ias 1 (.s 81) (.s 82))) 775,
 vD (vT 75 84 (.ld false 1 (.s 83))) 1799,
 ⟨⟨some (75, true), some 85, .inr (.fn 170 [(.s 80), (.s 84)])⟩, some [], [], 4095, false⟩,
 vD (vT 75 86 (.not (.s 85))) 8191,
 vD (vP 87 (.pick (.s 75) (.s 86) (.c (.bool false)))) 16383])
 (.cond (.s 87) (.seq (.region [vM 88 0,
 vM 89 1,
 vM 90 2,
 vM 91 11,
 vN 92 200 [(.s 88), (.s 89), (.s 90), (.s 91)],
 vM 13 92])
 (.seq (.region [vM 93 13,
 vM 1 93])
 (.exit 1)))
 (.skip)))
 (.seq (.region [vM 95 0,
 vM 96 1,
 vM 97 2,
 vM 98 11,
 vN 99 201 [(.s 95), (.s 96), (.s 97), (.s 98)],
 vM 94 99,
 vP 100 (.ex (.s 94) 0),
 vP 101 (.ex (.s 94) 1),
 vM 14 100,
 vM 15 101])
 (.seq (.region [vM 102 15,
 vM 9 102])
 (.seq (.region [vM 103 14,
 vM 104 1,
 vP 105 (vb .sub 103 104),
 vM 106 2,
 vM 107 14,
 vP 108 (vb .sub 106 107),
 vM 16 105,
 vM 17 108])
 (.seq (.region [vM 109 10,
 vP 110 (vc .quo 109 8),
 vM 18 110])
 (.seq (.region [vM 111 16,
 vM 112 17,
 vP 113 (vb .lss 111 112)])
 (.cond (.s 113) (.seq (.region [vM 114 16,
 vM 115 18,
 vP 116 (vb .geq 114 115),
 vM 8 116])
 (.seq (.region [vM 117 0,
 vM 118 1,
 vM 119 14,
 vM 120 3,
 vN 121 173 [(.s 117), (.s 118), (.s 119), (.s 120)]])
 (.region [vM 122 14,
 vP 123 (vc .add 122 1),
 vM 1 123])))
 (.seq (.region [vM 124 17,
 vM 125 18,
 vP 126 (vb .geq 124 125),
 vM 8 126])
 (.seq (.region [vM 127 0,
 vM 128 14,
 vP 129 (vc .add 128 1),
 vM 130 2,
 vM 131 3,
 vN 132 173 [(.s 127), (.s 129), (.s 130), (.s 131)]])
 (.region [vM 133 14,
 vM 2 133])))))))))))))))))
def k173 : Cd :=
  .seq (.region [vP 8 (.mv (.c (.bool true)))])
 (.seq (.region [vP 9 (.mv (.c (.bool true)))])
 (.block 0 (.loop k173l0)))
def k174 : Cd :=
  .seq (.region [vP 2 (.mv (vi 0))])
 (.seq (.cond (.c (.bool false)) (.seq (.region [vM 3 0,
 vP 4 (.cvi .u32 (.s 3)),
 vN 5 202 [(.s 4)],
 vM 2 5])
 (.ret))
 (.skip))
 (.seq (.region [vM 6 0,
 vN 7 203 [(.s 6)],
 vM 2 7])
 (.ret)))
def k192 : Cd :=
  .seq (.region [vP 4 (.mv (.c (.int .u32 0))),
 vP 5 (.mv (.c (.int .u32 0)))])
 (.seq (.region [vM 7 0,
 vP 8 (.cvi .u64 (.s 7)),
 vM 9 1,
 vP 10 (.cvi .u64 (.s 9)),
 vP 11 (vb .mul 8 10),
 vM 6 11])
 (.seq (.region [vM 12 6,
 vP 13 (.bin .shr (.s 12) (.c (.int .u64 32))),
 vP 14 (.cvi .u32 (.s 13)),
 vM 15 6,
 vP 16 (.cvi .u32 (.s 15)),
 vM 4 14,
 vM 5 16])
 (.ret)))
end Go.Proofs.YtgbkdjlekfjkfaaGreatDoor
