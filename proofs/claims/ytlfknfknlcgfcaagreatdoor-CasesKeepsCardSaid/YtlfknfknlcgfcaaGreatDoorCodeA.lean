/- The small code of the functions of this program, as its own reader reads them: part A. -/
import Derived.Test.YtlfknfknlcgfcaaGreatDoorEmR
namespace Go.Proofs.YtlfknfknlcgfcaaGreatDoor
open Go Go.Em
set_option maxRecDepth 100000
@[simp] abbrev vM (d x : Nat) : G := ⟨none, some d, .inl (.mv (.s x))⟩
@[simp] abbrev vL (d n x : Nat) : G := ⟨none, some d, .inl (.ld false n (.s x))⟩
@[simp] abbrev vF (d x o : Nat) : G := ⟨none, some d, .inl (.fa (.s x) o)⟩
@[simp] abbrev vI (d n x i : Nat) : G := ⟨none, some d, .inl (.ias n (.s x) (.s i))⟩
@[simp] abbrev vi (n : Int) : X := .c (.int .i64 n)
@[simp] abbrev vb (o : BinOp) (a b : Nat) : M := .bin o (.s a) (.s b)
@[simp] abbrev vc (o : BinOp) (a : Nat) (n : Int) : M := .bin o (.s a) (.c (.int .i64 n))
@[simp] abbrev vP (d : Nat) (m : M) : G := ⟨none, some d, .inl m⟩
@[simp] abbrev vT (g d : Nat) (m : M) : G := ⟨some (g, true), some d, .inl m⟩
@[simp] abbrev vU (g d : Nat) (m : M) : G := ⟨some (g, false), some d, .inl m⟩
@[simp] abbrev vN (d : Nat) (f : FuncId) (l : List X) : G := ⟨none, some d, .inr (.fn f l)⟩
@[simp] abbrev vD (g : G) (n : Nat) : DG := ⟨g, some [], [], n, false⟩
def k9 : Cd :=
  .seq (.region [vP 2 (.box 25 2 (.s 0)),
 vP 4 (.mv (.c (.bool false)))])
 (.seq (.region [vP 10 (.ld true 2 (.s 2)),
 vM 11 1,
 vN 12 43 [(.s 10), (.s 11)],
 vM 9 12,
 vP 13 (.ex (.s 9) 0),
 vP 14 (.ex (.s 9) 1),
 vM 5 13,
 vM 6 14])
 (.seq (.region [vP 16 (.ld true 2 (.s 2)),
 vM 17 1,
 vN 18 45 [(.s 16), (.s 17)],
 vM 15 18,
 vP 19 (.ex (.s 15) 0),
 vP 20 (.ex (.s 15) 1),
 vM 7 19,
 vM 8 20])
 (.seq (.region [vM 21 6,
 vM 22 8,
 vP 23 (vb .eql 21 22),
 vM 24 23,
 vT 24 25 (.mv (.s 5)),
 vT 24 26 (.mv (.s 7)),
 ⟨some (24, true), some 27, .inr (.fn 41 [(.s 25), (.s 26)])⟩,
 vP 28 (.pick (.s 24) (.s 27) (.c (.bool false))),
 vM 29 28,
 ⟨some (29, true), some 30, .inr (.fn 21 [])⟩,
 vP 31 (.pick (.s 29) (.s 30) (.c (.bool false))),
 vM 4 31])
 (.ret))))
def k15l0 : Cd :=
  .seq (.region [vP 24 (vb .lss 23 22)])
 (.seq (.cond (.s 24) (.skip)
 (.exit 0))
 (.seq (.block 1 (.seq (.region [vM 25 23,
 vI 26 2 21 23,
 vP 27 (.ld true 2 (.s 26)),
 vP 8 (.alloc 83 [(.int .i64 0), (.slice none 0 0)]),
 vM 7 25,
 ⟨none, none, .inl (.st 2 (.s 8) (.s 27))⟩])
 (.seq (.draw [vD (vM 28 1) 0,
 vD (vM 29 7) 0,
 vD (vI 30 1 28 29) 3,
 vD (vL 31 1 30) 7,
 vD (vF 32 8 1) 0,
 vD (vL 33 1 32) 16,
 vD (vP 34 (.len (.s 33))) 48,
 vD (vP 35 (vc .sub 34 1)) 112,
 vD (vN 36 58 [(.s 31), (vi 0), (.s 35)]) 255,
 vD (vP 37 (.not (.s 36))) 511])
 (.cond (.s 37) (.seq (.region [vP 4 (.mv (.c (.slice none 0 0))),
 vP 5 (.mv (vi 51))])
 (.ret))
 (.skip)))))
 (.region [vP 38 (vc .add 23 1),
 vM 23 38])))
def k15 : Cd :=
  .seq (.region [vP 2 (.box 25 2 (.s 0)),
 vP 4 (.mv (.c (.slice none 0 0))),
 vP 5 (.mv (vi 0))])
 (.seq (.seq (.region [vP 9 (.ld true 2 (.s 2)),
 vN 10 57 [(.s 9)],
 vM 6 10])
 (.seq (.region [vM 11 6,
 vP 12 (vc .neq 11 0)])
 (.cond (.s 12) (.seq (.region [vM 13 6,
 vP 4 (.mv (.c (.slice none 0 0))),
 vM 5 13])
 (.ret))
 (.skip))))
 (.seq (.seq (.region [vM 14 1,
 vP 15 (.len (.s 14)),
 vF 16 2 1,
 vL 17 1 16,
 vP 18 (.len (.s 17)),
 vP 19 (vb .neq 15 18)])
 (.cond (.s 19) (.seq (.region [vP 4 (.mv (.c (.slice none 0 0))),
 vP 5 (.mv (vi 51))])
 (.ret))
 (.skip)))
 (.seq (.seq (.region [vF 20 2 1,
 vL 21 1 20,
 vP 22 (.len (.s 21)),
 vP 23 (.mv (vi 0))])
 (.block 0 (.loop k15l0)))
 (.seq (.region [vP 39 (.ld true 2 (.s 2)),
 vM 40 1,
 vN 41 59 [(.s 39), (.s 40)],
 vM 4 41,
 vP 5 (.mv (vi 0))])
 (.ret)))))
def k21 : Cd :=
  .seq (.region [vP 0 (.mv (.c (.bool false)))])
 (.seq (.region [vN 11 69 [],
 vP 1 (.alloc 25 [(.slice none 0 0), (.slice none 0 0)]),
 ⟨none, none, .inl (.st 2 (.s 1) (.s 11))⟩])
 (.seq (.region [vP 13 (.ld true 2 (.s 1)),
 vN 14 24 [(.s 13)],
 vM 12 14,
 vP 15 (.ex (.s 12) 0),
 vP 16 (.ex (.s 12) 1),
 vM 2 15,
 vM 3 16])
 (.seq (.region [vP 18 (.ld true 2 (.s 1)),
 vN 19 32 [(.s 18), (vi 0), (vi 6)],
 vM 17 19,
 vP 20 (.ex (.s 17) 0),
 vP 21 (.ex (.s 17) 1),
 vM 4 20,
 vM 5 21])
 (.seq (.region [vP 23 (.ld true 2 (.s 1)),
 vP 24 (.bst 3 1 2 [(.int .i64 0)] [(0, (vi 5)), (1, (vi 1))]),
 vN 25 39 [(.s 23), (.s 24)],
 vM 22 25,
 vP 26 (.ex (.s 22) 0),
 vP 27 (.ex (.s 22) 1),
 vP 28 (.ex (.s 22) 2),
 vM 6 26,
 vM 7 27,
 vM 8 28])
 (.seq (.region [vP 30 (.ld true 2 (.s 1)),
 vP 31 (.bst 3 1 2 [(.int .i64 0)] [(0, (vi 0)), (1, (vi 1))]),
 vN 32 54 [(.s 30), (.s 31)],
 vM 29 32,
 vP 33 (.ex (.s 29) 0),
 vP 34 (.ex (.s 29) 1),
 vM 9 33,
 vM 10 34])
 (.seq (.region [vM 35 2,
 vP 36 (.bst 3 1 2 [(.int .i64 0)] [(0, (vi 0)), (1, (vi 0))]),
 vP 37 (.bst 3 1 2 [(.int .i64 0)] [(0, (vi 0)), (1, (vi 2))]),
 vP 38 (.bst 3 1 2 [(.int .i64 0)] [(0, (vi 1)), (1, (vi 0))]),
 vP 39 (.bst 3 1 2 [(.int .i64 0)] [(0, (vi 1)), (1, (vi 2))]),
 vP 40 (.bst 26 1 4 [(.slice none 0 0)] [(0, (.s 36)), (1, (.s 37)), (2, (.s 38)), (3, (.s 39))]),
 vN 41 27 [(.s 35), (.s 40)],
 vM 42 41,
 vT 42 43 (.mv (.s 3)),
 vT 42 44 (vc .eql 43 0),
 vP 45 (.pick (.s 42) (.s 44) (.c (.bool false))),
 vM 46 45,
 vT 46 47 (.mv (.s 4)),
 vT 46 48 (.bld [(.int .i64 0), (.int .i64 0)] [(0, 1, (vi 13)), (1, 1, (vi 15))]),
 vT 46 49 (.bld [(.int .i64 0), (.int .i64 0)] [(0, 1, (vi 18)), (1, 1, (vi 21))]),
 vT 46 50 (.bst 77 2 2 [(.int .i64 0), (.int .i64 0)] [(0, (.s 48)), (1, (.s 49))]),
 ⟨some (46, true), some 51, .inr (.fn 38 [(.s 47), (.s 50)])⟩,
 vP 52 (.pick (.s 46) (.s 51) (.c (.bool false))),
 vM 53 52,
 vT 53 54 (.mv (.s 5)),
 vT 53 55 (vc .eql 54 0),
 vP 56 (.pick (.s 53) (.s 55) (.c (.bool false))),
 vM 57 56,
 vT 57 58 (.mv (.s 6)),
 vT 57 59 (.bst 3 1 2 [(.int .i64 0)] [(0, (vi 0)), (1, (vi 2))]),
 ⟨some (57, true), some 60, .inr (.fn 41 [(.s 58), (.s 59)])⟩,
 vP 61 (.pick (.s 57) (.s 60) (.c (.bool false))),
 vM 62 61,
 vT 62 63 (.mv (.s 7)),
 vT 62 64 (.bld [(.int .i64 0), (.int .i64 0)] [(0, 1, (vi 0))]),
 vT 62 65 (.bld [(.int .i64 0), (.int .i64 0)] [(0, 1, (vi 5)), (1, 1, (vi 12))]),
 vT 62 66 (.bld [(.int .i64 0), (.int .i64 0)] [(0, 1, (vi 6)), (1, 1, (vi 15))]),
 vT 62 67 (.bst 73 2 3 [(.int .i64 0), (.int .i64 0)] [(0, (.s 64)), (1, (.s 65)), (2, (.s 66))]),
 ⟨some (62, true), some 68, .inr (.fn 42 [(.s 63), (.s 67)])⟩,
 vP 69 (.pick (.s 62) (.s 68) (.c (.bool false))),
 vM 70 69,
 vT 70 71 (.mv (.s 8)),
 vT 70 72 (vc .eql 71 0),
 vP 73 (.pick (.s 70) (.s 72) (.c (.bool false))),
 vM 74 73,
 vT 74 75 (.mv (.s 9)),
 vT 74 76 (.bst 3 1 3 [(.int .i64 0)] [(0, (vi 1)), (1, (vi 2)), (2, (vi 3))]),
 ⟨some (74, true), some 77, .inr (.fn 41 [(.s 75), (.s 76)])⟩,
 vP 78 (.pick (.s 74) (.s 77) (.c (.bool false))),
 vM 79 78,
 vT 79 80 (.mv (.s 10)),
 vT 79 81 (vc .eql 80 0),
 vP 82 (.pick (.s 79) (.s 81) (.c (.bool false))),
 vM 0 82])
 (.ret)))))))
def k24 : Cd :=
  .seq (.region [vP 1 (.box 25 2 (.s 0)),
 vP 2 (.mv (.c (.slice none 0 0))),
 vP 3 (.mv (vi 0))])
 (.seq (.seq (.region [vP 6 (.ld true 2 (.s 1)),
 vN 7 57 [(.s 6)],
 vM 4 7])
 (.seq (.region [vM 8 4,
 vP 9 (vc .neq 8 0)])
 (.cond (.s 9) (.seq (.region [vM 10 4,
 vP 2 (.mv (.c (.slice none 0 0))),
 vM 3 10])
 (.ret))
 (.skip))))
 (.seq (.region [vP 5 (.alloc 43 [(.slice none 0 0)])])
 (.seq (.region [vP 11 (.ld true 2 (.s 1)),
 vP 12 (.mkf (.func 76) [] [(.s 5)]),
 vN 13 75 [(.s 11), (.s 12)]])
 (.seq (.region [vL 14 1 5,
 vM 2 14,
 vP 3 (.mv (vi 0))])
 (.ret)))))
def k27l0 : Cd :=
  .seq (.region [vP 14 (vb .lss 13 12)])
 (.seq (.cond (.s 14) (.skip)
 (.exit 0))
 (.seq (.block 1 (.seq (.region [vM 15 13,
 vM 5 15])
 (.seq (.draw [vD (vM 16 0) 0,
 vD (vM 17 5) 0,
 vD (vI 18 1 16 17) 3,
 vD (vL 19 1 18) 7,
 vD (vM 20 1) 0,
 vD (vM 21 5) 0,
 vD (vI 22 1 20 21) 48,
 vD (vL 23 1 22) 112,
 vD (vN 24 41 [(.s 19), (.s 23)]) 255,
 vD (vP 25 (.not (.s 24))) 511])
 (.cond (.s 25) (.seq (.region [vP 4 (.mv (.c (.bool false)))])
 (.ret))
 (.skip)))))
 (.region [vP 26 (vc .add 13 1),
 vM 13 26])))
def k27 : Cd :=
  .seq (.region [vP 4 (.mv (.c (.bool false)))])
 (.seq (.seq (.region [vM 6 0,
 vP 7 (.len (.s 6)),
 vM 8 1,
 vP 9 (.len (.s 8)),
 vP 10 (vb .neq 7 9)])
 (.cond (.s 10) (.seq (.region [vP 4 (.mv (.c (.bool false)))])
 (.ret))
 (.skip)))
 (.seq (.seq (.region [vM 11 0,
 vP 12 (.len (.s 11)),
 vP 13 (.mv (vi 0))])
 (.block 0 (.loop k27l0)))
 (.seq (.region [vP 4 (.mv (.c (.bool true)))])
 (.ret))))
def k32 : Cd :=
  .seq (.region [vP 3 (.box 25 2 (.s 0)),
 vP 4 (.box 3 1 (.s 1)),
 vP 5 (.box 3 1 (.s 2)),
 vP 6 (.mv (.c (.slice none 0 0))),
 vP 7 (.mv (vi 0))])
 (.seq (.seq (.region [vP 10 (.ld true 2 (.s 3)),
 vL 11 1 4,
 vL 12 1 5,
 vN 13 85 [(.s 10), (.s 11), (.s 12)],
 vM 8 13])
 (.seq (.region [vM 14 8,
 vP 15 (vc .neq 14 0)])
 (.cond (.s 15) (.seq (.region [vM 16 8,
 vP 6 (.mv (.c (.slice none 0 0))),
 vM 7 16])
 (.ret))
 (.skip))))
 (.seq (.region [vP 9 (.alloc 53 [(.slice none 0 0)])])
 (.seq (.region [vP 17 (.ld true 2 (.s 3)),
 vP 18 (.mkf (.func 86) [] [(.s 4), (.s 5), (.s 9)]),
 vN 19 75 [(.s 17), (.s 18)]])
 (.seq (.seq (.region [vL 20 1 9,
 vP 21 (.len (.s 20)),
 vP 22 (vc .eql 21 0)])
 (.cond (.s 22) (.seq (.region [vP 6 (.mv (.c (.slice none 0 0))),
 vP 7 (.mv (vi 25))])
 (.ret))
 (.skip)))
 (.seq (.region [vL 23 1 9,
 vN 24 88 [(.s 23)],
 vM 6 24,
 vP 7 (.mv (vi 0))])
 (.ret))))))
def k38l0 : Cd :=
  .seq (.region [vP 14 (vb .lss 13 12)])
 (.seq (.cond (.s 14) (.skip)
 (.exit 0))
 (.seq (.block 1 (.seq (.region [vM 15 13,
 vM 5 15])
 (.seq (.draw [vD (vM 16 0) 0,
 vD (vM 17 5) 0,
 vD (vI 18 2 16 17) 3,
 vD (vP 19 (.ld true 2 (.s 18))) 7,
 vD (vM 20 1) 0,
 vD (vM 21 5) 0,
 vD (vI 22 2 20 21) 48,
 vD (vP 23 (.ld true 2 (.s 22))) 112,
 vD (vP 24 (.eq true (.cells [.int, .int]) (.s 19) (.s 23))) 255])
 (.cond (.s 24) (.seq (.region [vP 4 (.mv (.c (.bool false)))])
 (.ret))
 (.skip)))))
 (.region [vP 25 (vc .add 13 1),
 vM 13 25])))
def k38 : Cd :=
  .seq (.region [vP 4 (.mv (.c (.bool false)))])
 (.seq (.seq (.region [vM 6 0,
 vP 7 (.len (.s 6)),
 vM 8 1,
 vP 9 (.len (.s 8)),
 vP 10 (vb .neq 7 9)])
 (.cond (.s 10) (.seq (.region [vP 4 (.mv (.c (.bool false)))])
 (.ret))
 (.skip)))
 (.seq (.seq (.region [vM 11 0,
 vP 12 (.len (.s 11)),
 vP 13 (.mv (vi 0))])
 (.block 0 (.loop k38l0)))
 (.seq (.region [vP 4 (.mv (.c (.bool true)))])
 (.ret))))
def k39 : Cd :=
  .seq (.region [vP 2 (.box 25 2 (.s 0)),
 vP 4 (.mv (.c (.slice none 0 0))),
 vP 5 (.mv (.c (.slice none 0 0))),
 vP 6 (.mv (vi 0))])
 (.seq (.region [vP 13 (.ld true 2 (.s 2)),
 vN 14 24 [(.s 13)],
 vM 12 14,
 vP 15 (.ex (.s 12) 0),
 vP 16 (.ex (.s 12) 1),
 vM 7 15,
 vM 8 16])
 (.seq (.seq (.region [vM 17 8,
 vP 18 (vc .neq 17 0)])
 (.cond (.s 18) (.seq (.region [vM 19 8,
 vP 4 (.mv (.c (.slice none 0 0))),
 vP 5 (.mv (.c (.slice none 0 0))),
 vM 6 19])
 (.ret))
 (.skip)))
 (.seq (.seq (.region [vM 20 7,
 vP 21 (.len (.s 20)),
 vP 22 (vc .eql 21 0)])
 (.cond (.s 22) (.seq (.region [vP 4 (.mv (.c (.slice none 0 0))),
 vP 5 (.mv (.c (.slice none 0 0))),
 vP 6 (.mv (vi 25))])
 (.ret))
 (.skip)))
 (.seq (.region [vM 23 7,
 vM 24 1,
 vM 25 7,
 vP 26 (.len (.s 25)),
 vN 27 93 [(.s 24), (vi 0), (.s 26)],
 vI 28 1 23 27,
 vL 29 1 28,
 vM 9 29])
 (.seq (.seq (.region [vM 30 1,
 vP 31 (.len (.s 30)),
 vP 32 (vc .gtr 31 0)])
 (.cond (.s 32) (.draw [vD (vM 33 1) 0,
 vD (vP 34 (.slc 1 (.s 33) (some (vi 1)) none none)) 1,
 vD (vM 35 1) 0,
 vD (vP 36 (.slc 1 (.s 35) none (some (vi 1)) none)) 4,
 ⟨vP 37 (.bst 26 1 2 [(.slice none 0 0)] [(0, (.s 34)), (1, (.s 36))]), (some [.fr 37]), [], 15, false⟩,
 vD (vN 38 94 [(.s 37)]) 31,
 vD (vM 1 38) 63])
 (.skip)))
 (.seq (.region [vP 40 (.ld true 2 (.s 2)),
 vM 41 9,
 vN 42 59 [(.s 40), (.s 41)],
 vM 43 1,
 vN 44 95 [(.s 42), (.s 43)],
 vM 39 44,
 vP 45 (.ex (.s 39) 0),
 vP 46 (.ex (.s 39) 1),
 vM 10 45,
 vM 11 46])
 (.seq (.region [vM 47 9,
 vP 48 (.ld true 2 (.s 2)),
 vM 49 10,
 vN 50 96 [(.s 48), (.s 49)],
 vM 4 47,
 vM 5 50,
 vP 6 (.mv (vi 0))])
 (.ret))))))))
def k41l0 : Cd :=
  .seq (.region [vP 14 (vb .lss 13 12)])
 (.seq (.cond (.s 14) (.skip)
 (.exit 0))
 (.seq (.block 1 (.seq (.region [vM 15 13,
 vM 5 15])
 (.seq (.draw [vD (vM 16 0) 0,
 vD (vM 17 5) 0,
 vD (vI 18 1 16 17) 3,
 vD (vL 19 1 18) 7,
 vD (vM 20 1) 0,
 vD (vM 21 5) 0,
 vD (vI 22 1 20 21) 48,
 vD (vL 23 1 22) 112,
 vD (vP 24 (vb .neq 19 23)) 255])
 (.cond (.s 24) (.seq (.region [vP 4 (.mv (.c (.bool false)))])
 (.ret))
 (.skip)))))
 (.region [vP 25 (vc .add 13 1),
 vM 13 25])))
def k41 : Cd :=
  .seq (.region [vP 4 (.mv (.c (.bool false)))])
 (.seq (.seq (.region [vM 6 0,
 vP 7 (.len (.s 6)),
 vM 8 1,
 vP 9 (.len (.s 8)),
 vP 10 (vb .neq 7 9)])
 (.cond (.s 10) (.seq (.region [vP 4 (.mv (.c (.bool false)))])
 (.ret))
 (.skip)))
 (.seq (.seq (.region [vM 11 0,
 vP 12 (.len (.s 11)),
 vP 13 (.mv (vi 0))])
 (.block 0 (.loop k41l0)))
 (.seq (.region [vP 4 (.mv (.c (.bool true)))])
 (.ret))))
def k42l0 : Cd :=
  .seq (.region [vP 14 (vb .lss 13 12)])
 (.seq (.cond (.s 14) (.skip)
 (.exit 0))
 (.seq (.block 1 (.seq (.region [vM 15 13,
 vM 5 15])
 (.seq (.draw [vD (vM 16 0) 0,
 vD (vM 17 5) 0,
 vD (vI 18 2 16 17) 3,
 vD (vP 19 (.ld true 2 (.s 18))) 7,
 vD (vM 20 1) 0,
 vD (vM 21 5) 0,
 vD (vI 22 2 20 21) 48,
 vD (vP 23 (.ld true 2 (.s 22))) 112,
 vD (vP 24 (.eq true (.cells [.int, .int]) (.s 19) (.s 23))) 255])
 (.cond (.s 24) (.seq (.region [vP 4 (.mv (.c (.bool false)))])
 (.ret))
 (.skip)))))
 (.region [vP 25 (vc .add 13 1),
 vM 13 25])))
def k42 : Cd :=
  .seq (.region [vP 4 (.mv (.c (.bool false)))])
 (.seq (.seq (.region [vM 6 0,
 vP 7 (.len (.s 6)),
 vM 8 1,
 vP 9 (.len (.s 8)),
 vP 10 (vb .neq 7 9)])
 (.cond (.s 10) (.seq (.region [vP 4 (.mv (.c (.bool false)))])
 (.ret))
 (.skip)))
 (.seq (.seq (.region [vM 11 0,
 vP 12 (.len (.s 11)),
 vP 13 (.mv (vi 0))])
 (.block 0 (.loop k42l0)))
 (.seq (.region [vP 4 (.mv (.c (.bool true)))])
 (.ret))))
def k43l0 : Cd :=
  .seq (.region [vP 37 (vb .lss 36 35)])
 (.seq (.cond (.s 37) (.skip)
 (.exit 0))
 (.seq (.block 1 (.seq (.region [vI 38 2 34 36,
 vP 39 (.ld true 2 (.s 38)),
 vP 11 (.alloc 83 [(.int .i64 0), (.slice none 0 0)]),
 ⟨none, none, .inl (.st 2 (.s 11) (.s 39))⟩])
 (.seq (.region [vF 40 11 1,
 vL 41 1 40,
 vM 42 8,
 vN 43 110 [(.s 41), (.s 42)],
 vM 12 43])
 (.seq (.seq (.region [vM 44 12,
 vP 45 (.bin .eql (.s 44) (.c (.int .i64 (-1))))])
 (.cond (.s 45) (.seq (.region [vP 4 (.mv (.c (.slice none 0 0))),
 vP 5 (.mv (vi 23))])
 (.ret))
 (.skip)))
 (.region [vM 46 9,
 vM 47 12,
 vP 48 (.bs 3 1 1 [(.int .i64 0)] [(0, (.s 47))]),
 vP 49 (.app 3 1 8 (.s 46) (.s 48)),
 vM 9 49])))))
 (.region [vP 50 (vc .add 36 1),
 vM 36 50])))
def k43 : Cd :=
  .seq (.region [vP 2 (.box 25 2 (.s 0)),
 vP 4 (.mv (.c (.slice none 0 0))),
 vP 5 (.mv (vi 0))])
 (.seq (.seq (.region [vP 13 (.ld true 2 (.s 2)),
 vN 14 57 [(.s 13)],
 vM 6 14])
 (.seq (.region [vM 15 6,
 vP 16 (vc .neq 15 0)])
 (.cond (.s 16) (.seq (.region [vM 17 6,
 vP 4 (.mv (.c (.slice none 0 0))),
 vM 5 17])
 (.ret))
 (.skip))))
 (.seq (.seq (.region [vM 18 1,
 vP 19 (.ld true 2 (.s 2)),
 vN 20 101 [(.s 19)],
 vN 21 100 [(.s 18), (.s 20), (.f 102)],
 vP 22 (.not (.s 21))])
 (.cond (.s 22) (.seq (.region [vP 4 (.mv (.c (.slice none 0 0))),
 vP 5 (.mv (vi 3))])
 (.ret))
 (.skip)))
 (.seq (.seq (.region [vM 23 1,
 vN 24 103 [(.s 23), (.f 104)]])
 (.cond (.s 24) (.seq (.region [vP 4 (.mv (.c (.slice none 0 0))),
 vP 5 (.mv (vi 23))])
 (.ret))
 (.skip)))
 (.seq (.region [vM 25 1,
 vN 26 106 [(.s 25)],
 vP 7 (.alloc 142 [(.map none)]),
 ⟨none, none, .inl (.st 1 (.s 7) (.s 26))⟩])
 (.seq (.region [vP 27 (.mkf (.func 107) [] [(.s 7)]),
 vM 8 27])
 (.seq (.seq (.region [vM 28 8,
 vF 29 2 0,
 vL 30 1 29,
 ⟨none, some 31, .inr (.val false (.s 28) [(.s 30)])⟩,
 vP 32 (.not (.s 31))])
 (.cond (.s 32) (.seq (.region [vP 4 (.mv (.c (.slice none 0 0))),
 vP 5 (.mv (vi 23))])
 (.ret))
 (.skip)))
 (.seq (.region [vP 9 (.mv (.c (.slice none 0 0)))])
 (.seq (.seq (.region [vF 33 2 1,
 vL 34 1 33,
 vP 35 (.len (.s 34)),
 vP 36 (.mv (vi 0))])
 (.block 0 (.loop k43l0)))
 (.seq (.region [vM 51 9,
 vM 4 51,
 vP 5 (.mv (vi 0))])
 (.ret))))))))))
def k44l0 : Cd :=
  .seq (.region [vP 11 (vb .lss 10 9)])
 (.seq (.cond (.s 11) (.skip)
 (.exit 0))
 (.seq (.block 1 (.seq (.region [vI 12 5 8 10,
 vP 13 (.ld true 5 (.s 12)),
 vP 6 (.alloc 96 [(.int .i64 0), (.int .i64 0), (.int .i64 0), (.int .i64 0), (.int .i64 0)]),
 ⟨none, none, .inl (.st 5 (.s 6) (.s 13))⟩])
 (.seq (.draw [vD (vM 14 1) 0,
 vD (vF 15 6 1) 0,
 vD (vL 16 1 15) 2,
 vD (vN 17 111 [(.s 14), (.s 16)]) 7,
 vD (vM 18 1) 0,
 vD (vF 19 6 0) 0,
 vD (vL 20 1 19) 32,
 vD (vN 21 111 [(.s 18), (.s 20)]) 127,
 vD (vP 22 (vb .sub 17 21)) 255,
 vD (vM 7 22) 511])
 (.seq (.region [vM 23 7,
 vF 24 6 2,
 vL 25 1 24,
 vP 26 (vb .lss 23 25),
 vM 27 26,
 vU 27 28 (.mv (.s 7)),
 vU 27 29 (.fa (.s 6) 3),
 vU 27 30 (.ld false 1 (.s 29)),
 vU 27 31 (vb .gtr 28 30),
 vP 32 (.pick (.s 27) (.c (.bool true)) (.s 31))])
 (.cond (.s 32) (.seq (.region [vP 4 (.mv (.c (.bool false)))])
 (.ret))
 (.skip))))))
 (.region [vP 33 (vc .add 10 1),
 vM 10 33])))
def k44 : Cd :=
  .seq (.region [vP 4 (.mv (.c (.bool false)))])
 (.seq (.seq (.region [vM 8 0,
 vP 9 (.len (.s 8)),
 vP 10 (.mv (vi 0))])
 (.block 0 (.loop k44l0)))
 (.seq (.region [vP 4 (.mv (.c (.bool true)))])
 (.ret)))
def k45l0 : Cd :=
  .seq (.region [vP 26 (vb .lss 25 24)])
 (.seq (.cond (.s 26) (.skip)
 (.exit 0))
 (.seq (.block 1 (.seq (.region [vI 27 1 23 25,
 vL 28 1 27,
 vM 8 28])
 (.seq (.region [vP 29 (.ld true 2 (.s 2)),
 vM 30 8,
 vN 31 62 [(.s 29), (.s 30)],
 vM 32 1,
 vN 33 44 [(.s 31), (.s 32)]])
 (.cond (.s 33) (.seq (.region [vM 34 8,
 vM 4 34,
 vP 5 (.mv (vi 0))])
 (.ret))
 (.skip)))))
 (.region [vP 35 (vc .add 25 1),
 vM 25 35])))
def k45 : Cd :=
  .seq (.region [vP 2 (.box 25 2 (.s 0)),
 vP 4 (.mv (.c (.slice none 0 0))),
 vP 5 (.mv (vi 0))])
 (.seq (.region [vP 9 (.ld true 2 (.s 2)),
 vN 10 60 [(.s 9)],
 vM 6 10])
 (.seq (.seq (.region [vM 11 6,
 vP 12 (vc .neq 11 0)])
 (.cond (.s 12) (.seq (.region [vM 13 6,
 vP 4 (.mv (.c (.slice none 0 0))),
 vM 5 13])
 (.ret))
 (.skip)))
 (.seq (.seq (.draw [vD (vM 14 1) 0,
 ⟨vN 15 112 [(.s 14)], (some [.at 1]), [], 1, false⟩,
 ⟨vP 16 (.ld true 2 (.s 2)), some [], [.at 1], 0, false⟩,
 vD (vN 17 52 [(.s 16)]) 7,
 vD (vN 18 41 [(.s 15), (.s 17)]) 15,
 vD (vP 19 (.not (.s 18))) 31])
 (.cond (.s 19) (.seq (.region [vP 4 (.mv (.c (.slice none 0 0))),
 vP 5 (.mv (vi 3))])
 (.ret))
 (.skip)))
 (.seq (.seq (.region [vM 20 1,
 vN 21 113 [(.s 20)]])
 (.cond (.s 21) (.seq (.region [vP 22 (.ld true 2 (.s 2)),
 vN 23 114 [(.s 22)],
 vP 24 (.len (.s 23)),
 vP 25 (.mv (vi 0))])
 (.block 0 (.loop k45l0)))
 (.skip)))
 (.seq (.region [vP 4 (.mv (.c (.slice none 0 0))),
 vP 5 (.mv (vi 23))])
 (.ret))))))
def k52l0 : Cd :=
  .seq (.region [vP 22 (vb .lss 21 20)])
 (.seq (.cond (.s 22) (.skip)
 (.exit 2))
 (.seq (.block 3 (.seq (.region [vI 23 1 19 21,
 vL 24 1 23,
 vM 7 24])
 (.region [vM 25 3,
 vM 26 7,
 vN 27 119 [(.s 25), (.s 26)],
 vM 3 27])))
 (.region [vP 28 (vc .add 21 1),
 vM 21 28])))
def k52l1 : Cd :=
  .seq (.region [vP 15 (vb .lss 14 13)])
 (.seq (.cond (.s 15) (.skip)
 (.exit 0))
 (.seq (.block 1 (.seq (.region [vI 16 2 12 14,
 vP 17 (.ld true 2 (.s 16)),
 vP 5 (.alloc 83 [(.int .i64 0), (.slice none 0 0)]),
 ⟨none, none, .inl (.st 2 (.s 5) (.s 17))⟩])
 (.seq (.region [vF 18 5 1,
 vL 19 1 18,
 vP 20 (.len (.s 19)),
 vP 21 (.mv (vi 0))])
 (.block 2 (.loop k52l0)))))
 (.region [vP 29 (vc .add 14 1),
 vM 14 29])))
def k52 : Cd :=
  .seq (.region [vP 1 (.box 25 2 (.s 0)),
 vP 2 (.mv (.c (.slice none 0 0)))])
 (.seq (.region [vF 8 1 0,
 vL 9 1 8,
 vN 10 119 [(.c (.slice none 0 0)), (.s 9)],
 vM 3 10])
 (.seq (.seq (.region [vF 11 1 1,
 vL 12 1 11,
 vP 13 (.len (.s 12)),
 vP 14 (.mv (vi 0))])
 (.block 0 (.loop k52l1)))
 (.seq (.region [vM 30 3,
 vM 2 30])
 (.ret))))
def k54 : Cd :=
  .seq (.region [vP 2 (.box 25 2 (.s 0)),
 vP 4 (.mv (.c (.slice none 0 0))),
 vP 5 (.mv (vi 0))])
 (.seq (.region [vP 9 (.ld true 2 (.s 2)),
 vM 10 1,
 vN 11 15 [(.s 9), (.s 10)],
 vM 8 11,
 vP 12 (.ex (.s 8) 0),
 vP 13 (.ex (.s 8) 1),
 vM 6 12,
 vM 7 13])
 (.seq (.seq (.region [vM 14 7,
 vP 15 (vc .neq 14 0)])
 (.cond (.s 15) (.seq (.region [vM 16 7,
 vP 4 (.mv (.c (.slice none 0 0))),
 vM 5 16])
 (.ret))
 (.skip)))
 (.seq (.region [vM 17 6,
 vN 18 120 [(.s 17)],
 vP 19 (.ex (.s 18) 0),
 vP 20 (.ex (.s 18) 1),
 vM 4 19,
 vM 5 20])
 (.ret))))
def k57l0 : Cd :=
  .seq (.region [vP 25 (vb .lss 24 23)])
 (.seq (.cond (.s 25) (.skip)
 (.exit 0))
 (.seq (.block 1 (.seq (.region [vI 26 2 22 24,
 vP 27 (.ld true 2 (.s 26)),
 vP 5 (.alloc 83 [(.int .i64 0), (.slice none 0 0)]),
 ⟨none, none, .inl (.st 2 (.s 5) (.s 27))⟩])
 (.seq (.region [vP 28 (.ld true 2 (.s 5)),
 vN 29 128 [(.s 28)],
 vM 6 29])
 (.seq (.region [vM 30 6,
 vP 31 (vc .neq 30 0)])
 (.cond (.s 31) (.seq (.region [vM 32 6,
 vM 2 32])
 (.ret))
 (.skip))))))
 (.region [vP 33 (vc .add 24 1),
 vM 24 33])))
def k57l1 : Cd :=
  .seq (.region [vP 41 (vb .lss 40 39)])
 (.seq (.cond (.s 41) (.skip)
 (.exit 2))
 (.seq (.block 3 (.seq (.region [vI 42 2 38 40,
 vP 43 (.ld true 2 (.s 42)),
 vP 10 (.alloc 83 [(.int .i64 0), (.slice none 0 0)]),
 ⟨none, none, .inl (.st 2 (.s 10) (.s 43))⟩])
 (.seq (.region [vM 44 7,
 vF 45 10 1,
 vL 46 1 45,
 vP 47 (.len (.s 46)),
 vP 48 (vb .mul 44 47),
 vM 7 48])
 (.region [vM 49 8,
 vP 50 (.ld true 2 (.s 10)),
 vN 51 129 [(.s 50)],
 vP 52 (vb .add 49 51),
 vM 8 52]))))
 (.region [vP 53 (vc .add 40 1),
 vM 40 53])))
def k57 : Cd :=
  .seq (.region [vP 1 (.box 25 2 (.s 0)),
 vP 2 (.mv (vi 0))])
 (.seq (.seq (.region [vF 11 1 0,
 vL 12 1 11,
 vN 13 127 [(.s 12)],
 vM 3 13])
 (.seq (.region [vM 14 3,
 vP 15 (vc .neq 14 0)])
 (.cond (.s 15) (.seq (.region [vM 16 3,
 vM 2 16])
 (.ret))
 (.skip))))
 (.seq (.seq (.region [vF 17 1 1,
 vL 18 1 17,
 vP 19 (.len (.s 18)),
 vP 20 (vc .gtr 19 6)])
 (.cond (.s 20) (.seq (.region [vP 2 (.mv (vi 2))])
 (.ret))
 (.skip)))
 (.seq (.seq (.region [vF 21 1 1,
 vL 22 1 21,
 vP 23 (.len (.s 22)),
 vP 24 (.mv (vi 0))])
 (.block 0 (.loop k57l0)))
 (.seq (.draw [vD (vF 34 1 0) 0,
 vD (vL 35 1 34) 1,
 vD (vP 36 (.len (.s 35))) 3,
 vD (vP 7 (.mv (vi 1))) 0,
 vD (vM 8 36) 15])
 (.seq (.seq (.region [vF 37 1 1,
 vL 38 1 37,
 vP 39 (.len (.s 38)),
 vP 40 (.mv (vi 0))])
 (.block 2 (.loop k57l1)))
 (.seq (.seq (.region [vM 54 7,
 vP 55 (vc .gtr 54 3000),
 vM 56 55,
 vU 56 57 (.mv (.s 8)),
 vU 56 58 (vc .gtr 57 400),
 vP 59 (.pick (.s 56) (.c (.bool true)) (.s 58)),
 vM 60 59,
 vU 60 61 (.ld true 2 (.s 1)),
 ⟨some (60, false), some 62, .inr (.fn 101 [(.s 61)])⟩,
 vU 60 63 (.len (.s 62)),
 vU 60 64 (vc .gtr 63 64),
 vP 65 (.pick (.s 60) (.c (.bool true)) (.s 64))])
 (.cond (.s 65) (.seq (.region [vP 2 (.mv (vi 2))])
 (.ret))
 (.skip)))
 (.seq (.region [vP 2 (.mv (vi 0))])
 (.ret))))))))
def k58 : Cd :=
  .seq (.region [vP 6 (.mv (.c (.bool false)))])
 (.seq (.region [vM 7 1,
 vM 8 0,
 vP 9 (vb .leq 7 8),
 vM 10 9,
 vT 10 11 (.mv (.s 0)),
 vT 10 12 (.mv (.s 2)),
 vT 10 13 (vb .leq 11 12),
 vP 14 (.pick (.s 10) (.s 13) (.c (.bool false))),
 vM 6 14])
 (.ret))
def k59l0 : Cd :=
  .seq (.region [vP 14 (vb .lss 13 12)])
 (.seq (.cond (.s 14) (.skip)
 (.exit 0))
 (.seq (.block 1 (.seq (.region [vM 15 13,
 vI 16 1 11 13,
 vL 17 1 16,
 vM 6 15,
 vM 7 17])
 (.region [vM 18 5,
 vF 19 2 1,
 vL 20 1 19,
 vM 21 6,
 vI 22 2 20 21,
 vF 23 22 1,
 vL 24 1 23,
 vM 25 7,
 vI 26 1 24 25,
 vL 27 1 26,
 vP 28 (.app 96 5 40 (.s 18) (.s 27)),
 vM 5 28])))
 (.region [vP 29 (vc .add 13 1),
 vM 13 29])))
def k59 : Cd :=
  .seq (.region [vP 2 (.box 25 2 (.s 0)),
 vP 4 (.mv (.c (.slice none 0 0)))])
 (.seq (.region [vF 8 2 0,
 vL 9 1 8,
 vN 10 66 [(.s 9)],
 vM 5 10])
 (.seq (.seq (.region [vM 11 1,
 vP 12 (.len (.s 11)),
 vP 13 (.mv (vi 0))])
 (.block 0 (.loop k59l0)))
 (.seq (.region [vM 30 5,
 vM 4 30])
 (.ret))))
def k60l0 : Cd :=
  .seq (.region [vP 38 (vb .lss 37 36)])
 (.seq (.cond (.s 38) (.skip)
 (.exit 2))
 (.seq (.block 3 (.seq (.region [vI 39 1 35 37,
 vL 40 1 39,
 vM 10 40])
 (.region [vM 41 8,
 vM 42 10,
 vP 43 (.len (.s 42)),
 vP 44 (.mm true (.s 41) (.s 43)),
 vM 8 44])))
 (.region [vP 45 (vc .add 37 1),
 vM 37 45])))
def k60l1 : Cd :=
  .seq (.region [vP 28 (vb .lss 27 26)])
 (.seq (.cond (.s 28) (.skip)
 (.exit 0))
 (.seq (.block 1 (.seq (.region [vI 29 2 25 27,
 vP 30 (.ld true 2 (.s 29)),
 vP 7 (.alloc 83 [(.int .i64 0), (.slice none 0 0)]),
 ⟨none, none, .inl (.st 2 (.s 7) (.s 30))⟩])
 (.seq (.seq (.region [vP 31 (.ld true 2 (.s 7)),
 vN 32 130 [(.s 31)],
 vP 33 (vc .neq 32 0)])
 (.cond (.s 33) (.seq (.region [vP 2 (.mv (vi 50))])
 (.ret))
 (.skip)))
 (.seq (.region [vP 8 (.mv (vi 0))])
 (.seq (.seq (.region [vF 34 7 1,
 vL 35 1 34,
 vP 36 (.len (.s 35)),
 vP 37 (.mv (vi 0))])
 (.block 2 (.loop k60l0)))
 (.seq (.region [vM 46 4,
 vF 47 7 1,
 vL 48 1 47,
 vP 49 (.len (.s 48)),
 vP 50 (vb .mul 46 49),
 vP 51 (.mm false (.s 50) (vi 3001)),
 vM 4 51])
 (.region [vM 52 5,
 vM 53 8,
 vP 54 (vb .add 52 53),
 vP 55 (.mm false (.s 54) (vi 401)),
 vM 5 55])))))))
 (.region [vP 56 (vc .add 27 1),
 vM 27 56])))
def k60 : Cd :=
  .seq (.region [vP 1 (.box 25 2 (.s 0)),
 vP 2 (.mv (vi 0))])
 (.seq (.region [vF 11 1 0,
 vL 12 1 11,
 vN 13 122 [(.s 12)],
 vM 3 13])
 (.seq (.seq (.region [vM 14 3,
 vP 15 (vc .neq 14 0)])
 (.cond (.s 15) (.seq (.region [vM 16 3,
 vM 2 16])
 (.ret))
 (.skip)))
 (.seq (.seq (.region [vF 17 1 1,
 vL 18 1 17,
 vP 19 (.len (.s 18)),
 vP 20 (vc .gtr 19 6)])
 (.cond (.s 20) (.seq (.region [vP 2 (.mv (vi 2))])
 (.ret))
 (.skip)))
 (.seq (.region [vP 4 (.mv (vi 1))])
 (.seq (.region [vF 21 1 0,
 vL 22 1 21,
 vP 23 (.len (.s 22)),
 vM 5 23])
 (.seq (.seq (.region [vF 24 1 1,
 vL 25 1 24,
 vP 26 (.len (.s 25)),
 vP 27 (.mv (vi 0))])
 (.block 0 (.loop k60l1)))
 (.seq (.seq (.region [vM 57 4,
 vP 58 (vc .gtr 57 3000),
 vM 59 58,
 vU 59 60 (.mv (.s 5)),
 vU 59 61 (vc .gtr 60 400),
 vP 62 (.pick (.s 59) (.c (.bool true)) (.s 61)),
 vM 63 62,
 vU 63 64 (.ld true 2 (.s 1)),
 ⟨some (63, false), some 65, .inr (.fn 52 [(.s 64)])⟩,
 vU 63 66 (.len (.s 65)),
 vU 63 67 (vc .gtr 66 64),
 vP 68 (.pick (.s 63) (.c (.bool true)) (.s 67))])
 (.cond (.s 68) (.seq (.region [vP 2 (.mv (vi 2))])
 (.ret))
 (.skip)))
 (.seq (.region [vP 2 (.mv (vi 0))])
 (.ret)))))))))
def k62l0 : Cd :=
  .seq (.region [vP 15 (vb .lss 14 13)])
 (.seq (.cond (.s 15) (.skip)
 (.exit 0))
 (.seq (.block 1 (.seq (.region [vM 16 14,
 vI 17 1 12 14,
 vL 18 1 17,
 vM 6 16,
 vM 7 18])
 (.region [vM 19 5,
 vF 20 2 1,
 vL 21 1 20,
 vM 22 6,
 vI 23 2 21 22,
 vF 24 23 1,
 vL 25 1 24,
 vM 26 7,
 vI 27 1 25 26,
 vL 28 1 27,
 vP 29 (.app 96 5 40 (.s 19) (.s 28)),
 vM 5 29])))
 (.region [vP 30 (vc .add 14 1),
 vM 14 30])))
def k62 : Cd :=
  .seq (.region [vP 2 (.box 25 2 (.s 0)),
 vP 4 (.mv (.c (.slice none 0 0)))])
 (.seq (.region [vP 8 (.bs 96 5 0 [(.int .i64 0), (.int .i64 0), (.int .i64 0), (.int .i64 0), (.int .i64 0)] []),
 vF 9 2 0,
 vL 10 1 9,
 vP 11 (.app 96 5 40 (.s 8) (.s 10)),
 vM 5 11])
 (.seq (.seq (.region [vM 12 1,
 vP 13 (.len (.s 12)),
 vP 14 (.mv (vi 0))])
 (.block 0 (.loop k62l0)))
 (.seq (.region [vM 31 5,
 vM 4 31])
 (.ret))))
def k66 : Cd :=
  .seq (.region [vP 2 (.mv (.c (.slice none 0 0)))])
 (.seq (.seq (.region [vM 3 0,
 vP 4 (.eq false (.nil .slice) (.s 3) (.c (.slice none 0 0)))])
 (.cond (.s 4) (.seq (.region [vP 2 (.mv (.c (.slice none 0 0)))])
 (.ret))
 (.skip)))
 (.seq (.region [vP 5 (.bs 96 5 0 [(.int .i64 0), (.int .i64 0), (.int .i64 0), (.int .i64 0), (.int .i64 0)] []),
 vM 6 0,
 vP 7 (.app 96 5 40 (.s 5) (.s 6)),
 vM 2 7])
 (.ret)))
def k69 : Cd :=
  .seq (.region [vP 0 (.alloc 25 [(.slice none 0 0), (.slice none 0 0)])])
 (.seq (.region [vP 1 (.bld [(.int .i64 0), (.int .i64 0), (.int .i64 0), (.int .i64 0), (.int .i64 0)] [(0, 1, (vi 0)), (1, 1, (vi 5)), (2, 1, (vi 10)), (3, 1, (vi 12)), (4, 1, (vi 1))]),
 vP 2 (.bst 96 5 1 [(.int .i64 0), (.int .i64 0), (.int .i64 0), (.int .i64 0), (.int .i64 0)] [(0, (.s 1))]),
 vP 3 (.bld [(.int .i64 0), (.int .i64 0), (.int .i64 0), (.int .i64 0), (.int .i64 0)] [(0, 1, (vi 5)), (1, 1, (vi 6)), (2, 1, (vi 3)), (3, 1, (vi 3)), (4, 1, (vi 2))]),
 vP 4 (.bst 96 5 1 [(.int .i64 0), (.int .i64 0), (.int .i64 0), (.int .i64 0), (.int .i64 0)] [(0, (.s 3))]),
 vP 5 (.bld [(.int .i64 0), (.int .i64 0), (.int .i64 0), (.int .i64 0), (.int .i64 0)] [(0, 1, (vi 5)), (1, 1, (vi 6)), (2, 1, (vi 8)), (3, 1, (vi 9)), (4, 1, (vi 2))]),
 vP 6 (.bst 96 5 1 [(.int .i64 0), (.int .i64 0), (.int .i64 0), (.int .i64 0), (.int .i64 0)] [(0, (.s 5))]),
 vP 7 (.bst 22 1 2 [(.slice none 0 0)] [(0, (.s 4)), (1, (.s 6))]),
 vP 8 (.bld [(.int .i64 0), (.slice none 0 0)] [(0, 1, (vi 2)), (1, 1, (.s 7))]),
 vP 9 (.bld [(.int .i64 0), (.int .i64 0), (.int .i64 0), (.int .i64 0), (.int .i64 0)] [(0, 1, (vi 0)), (1, 1, (vi 6)), (2, 1, (vi 30)), (3, 1, (vi 40)), (4, 1, (vi 3))]),
 vP 10 (.bst 96 5 1 [(.int .i64 0), (.int .i64 0), (.int .i64 0), (.int .i64 0), (.int .i64 0)] [(0, (.s 9))]),
 vP 11 (.bld [(.int .i64 0), (.int .i64 0), (.int .i64 0), (.int .i64 0), (.int .i64 0)] [(0, 1, (vi 0)), (1, 1, (vi 6)), (2, 1, (vi 14)), (3, 1, (vi 20)), (4, 1, (vi 3))]),
 vP 12 (.bst 96 5 1 [(.int .i64 0), (.int .i64 0), (.int .i64 0), (.int .i64 0), (.int .i64 0)] [(0, (.s 11))]),
 vP 13 (.bst 22 1 3 [(.slice none 0 0)] [(0, (.c (.slice none 0 0))), (1, (.s 10)), (2, (.s 12))]),
 vP 14 (.bld [(.int .i64 0), (.slice none 0 0)] [(0, 1, (vi 3)), (1, 1, (.s 13))]),
 vP 15 (.bst 83 2 2 [(.int .i64 0), (.slice none 0 0)] [(0, (.s 8)), (1, (.s 14))]),
 vP 16 (.bld [(.slice none 0 0), (.slice none 0 0)] [(0, 1, (.s 2)), (1, 1, (.s 15))]),
 ⟨none, none, .inl (.st 2 (.s 0) (.s 16))⟩])
 (.ret))
def k72 : Cd :=
  .seq (.region [vP 2 (.mv (.c (.slice none 0 0)))])
 (.seq (.region [vM 6 0,
 vN 7 137 [(.s 6)],
 vM 5 7,
 vP 8 (.ex (.s 5) 0),
 vP 9 (.ex (.s 5) 1),
 vM 3 8,
 vM 4 9])
 (.seq (.region [vM 10 3,
 vM 2 10])
 (.ret)))
def k75 : Cd :=
  .seq (.region [vP 2 (.box 25 2 (.s 0)),
 vP 3 (.box 114 1 (.s 1))])
 (.seq (.region [vP 4 (.alloc 169 [.nilFunc])])
 (.seq (.region [vP 5 (.mkf (.func 141) [] [(.s 2), (.s 3), (.s 4)]),
 ⟨none, none, .inl (.st 1 (.s 4) (.s 5))⟩])
 (.region [vL 6 1 4,
 ⟨none, some 7, .inr (.val false (.s 6) [(.c (.slice none 0 0))])⟩])))
def k76 : Cd :=
  .seq (.region [vP 5 (.mv (.c (.bool false)))])
 (.seq (.region [vL 6 1 2,
 vM 7 0,
 vP 8 (.bs 26 1 1 [(.slice none 0 0)] [(0, (.s 7))]),
 vP 9 (.app 26 1 24 (.s 6) (.s 8)),
 ⟨none, none, .inl (.st 1 (.s 2) (.s 9))⟩])
 (.seq (.region [vP 5 (.mv (.c (.bool true)))])
 (.ret)))
def k84l0 : Cd :=
  .seq (.seq (.region [vM 9 5,
 vP 10 (vc .gtr 9 0),
 vM 11 10,
 vT 11 12 (.mv (.s 0)),
 vT 11 13 (.mv (.s 5)),
 vT 11 14 (vc .sub 13 1),
 vT 11 15 (.ias 1 (.s 12) (.s 14)),
 vT 11 16 (.ld false 1 (.s 15)),
 vT 11 17 (.mv (.s 1)),
 vT 11 18 (vb .geq 16 17),
 vP 19 (.pick (.s 11) (.s 18) (.c (.bool false)))])
 (.cond (.s 19) (.skip)
 (.exit 0)))
 (.block 1 (.region [vM 20 5,
 vP 21 (vc .sub 20 1),
 vM 5 21]))
def k84 : Cd :=
  .seq (.region [vP 4 (.mv (.c (.slice none 0 0)))])
 (.seq (.region [vM 7 0,
 vP 8 (.len (.s 7)),
 vM 5 8])
 (.seq (.block 0 (.loop k84l0))
 (.seq (.seq (.region [vM 22 5,
 vM 23 0,
 vP 24 (.len (.s 23)),
 vP 25 (vb .lss 22 24),
 vM 26 25,
 vT 26 27 (.mv (.s 0)),
 vT 26 28 (.mv (.s 5)),
 vT 26 29 (.ias 1 (.s 27) (.s 28)),
 vT 26 30 (.ld false 1 (.s 29)),
 vT 26 31 (.mv (.s 1)),
 vT 26 32 (vb .eql 30 31),
 vP 33 (.pick (.s 26) (.s 32) (.c (.bool false)))])
 (.cond (.s 33) (.seq (.region [vM 34 0,
 vM 4 34])
 (.ret))
 (.skip)))
 (.seq (.region [vP 35 (.bs 3 1 0 [(.int .i64 0)] []),
 vM 36 0,
 vM 37 5,
 vP 38 (.slc 1 (.s 36) none (some (.s 37)) none),
 vP 39 (.app 3 1 8 (.s 35) (.s 38)),
 vM 6 39])
 (.seq (.region [vM 40 6,
 vM 41 1,
 vP 42 (.bs 3 1 1 [(.int .i64 0)] [(0, (.s 41))]),
 vP 43 (.app 3 1 8 (.s 40) (.s 42)),
 vM 6 43])
 (.seq (.region [vM 44 6,
 vM 45 0,
 vM 46 5,
 vP 47 (.slc 1 (.s 45) (some (.s 46)) none none),
 vP 48 (.app 3 1 8 (.s 44) (.s 47)),
 vM 4 48])
 (.ret)))))))
def k85 : Cd :=
  .seq (.region [vP 3 (.box 25 2 (.s 0)),
 vP 6 (.mv (vi 0))])
 (.seq (.seq (.region [vP 9 (.ld true 2 (.s 3)),
 vN 10 57 [(.s 9)],
 vM 7 10])
 (.seq (.region [vM 11 7,
 vP 12 (vc .neq 11 0)])
 (.cond (.s 12) (.seq (.region [vM 13 7,
 vM 6 13])
 (.ret))
 (.skip))))
 (.seq (.region [vP 14 (.ld true 2 (.s 3)),
 vN 15 101 [(.s 14)],
 vM 8 15])
 (.seq (.seq (.region [vM 16 8,
 vM 17 1,
 vN 18 145 [(.s 16), (.s 17)],
 vP 19 (.not (.s 18)),
 vM 20 19,
 vU 20 21 (.mv (.s 8)),
 vU 20 22 (.mv (.s 2)),
 ⟨some (20, false), some 23, .inr (.fn 145 [(.s 21), (.s 22)])⟩,
 vU 20 24 (.not (.s 23)),
 vP 25 (.pick (.s 20) (.c (.bool true)) (.s 24))])
 (.cond (.s 25) (.seq (.region [vP 6 (.mv (vi 3))])
 (.ret))
 (.skip)))
 (.seq (.region [vP 6 (.mv (vi 0))])
 (.ret)))))
def k86 : Cd :=
  .seq (.region [vP 7 (.mv (.c (.bool false)))])
 (.seq (.region [vM 9 1,
 vL 10 1 2,
 vL 11 1 3,
 vN 12 87 [(.s 9), (.s 10), (.s 11)],
 vP 8 (.alloc 77 [(.int .i64 0), (.int .i64 0)]),
 ⟨none, none, .inl (.st 2 (.s 8) (.s 12))⟩])
 (.seq (.region [vL 13 1 4,
 vP 14 (.ld true 2 (.s 8)),
 vP 15 (.bs 77 2 1 [(.int .i64 0), (.int .i64 0)] [(0, (.s 14))]),
 vP 16 (.app 77 2 16 (.s 13) (.s 15)),
 ⟨none, none, .inl (.st 1 (.s 4) (.s 16))⟩])
 (.seq (.region [vL 17 1 2,
 vL 18 1 3,
 vP 19 (vb .neq 17 18),
 vM 20 19,
 vT 20 21 (.ld true 2 (.s 8)),
 vT 20 22 (.ld true 2 (.g 0)),
 vT 20 23 (.eq true (.cells [.int, .int]) (.s 21) (.s 22)),
 vP 24 (.pick (.s 20) (.s 23) (.c (.bool false))),
 vM 7 24])
 (.ret))))
def k87 : Cd :=
  .seq (.region [vP 6 (.alloc 77 [(.int .i64 0), (.int .i64 0)])])
 (.seq (.seq (.region [vM 10 1,
 vM 11 2,
 vP 12 (vb .eql 10 11)])
 (.cond (.s 12) (.seq (.region [vP 13 (.bld [(.int .i64 0), (.int .i64 0)] []),
 ⟨none, none, .inl (.st 2 (.s 6) (.s 13))⟩])
 (.ret))
 (.skip)))
 (.seq (.region [vM 15 0,
 vM 16 1,
 vM 17 2,
 vN 18 146 [(.s 15), (.s 16), (.s 17)],
 vM 14 18,
 vP 19 (.ex (.s 14) 0),
 vP 20 (.ex (.s 14) 1),
 vP 21 (.ex (.s 14) 2),
 vM 7 19,
 vM 8 20,
 vM 9 21])
 (.seq (.seq (.region [vM 22 9,
 vP 23 (vc .neq 22 0)])
 (.cond (.s 23) (.seq (.region [vP 24 (.ld true 2 (.g 0)),
 ⟨none, none, .inl (.st 2 (.s 6) (.s 24))⟩])
 (.ret))
 (.skip)))
 (.seq (.region [vM 25 7,
 vM 26 8,
 vP 27 (.bld [(.int .i64 0), (.int .i64 0)] [(0, 1, (.s 25)), (1, 1, (.s 26))]),
 ⟨none, none, .inl (.st 2 (.s 6) (.s 27))⟩])
 (.ret)))))
def k88l0 : Cd :=
  .seq (.region [vP 12 (vb .lss 11 10)])
 (.seq (.cond (.s 12) (.skip)
 (.exit 0))
 (.seq (.block 1 (.seq (.region [vI 13 2 9 11,
 vP 14 (.ld true 2 (.s 13)),
 vP 5 (.alloc 77 [(.int .i64 0), (.int .i64 0)]),
 ⟨none, none, .inl (.st 2 (.s 5) (.s 14))⟩])
 (.seq (.region [vM 15 3,
 vP 16 (.len (.s 15)),
 vP 17 (vc .sub 16 1),
 vM 6 17])
 (.seq (.draw [vD (vM 18 6) 0,
 vD (vP 19 (vc .geq 18 0)) 1,
 vD (vM 20 19) 3,
 vD (vT 20 21 (.fa (.s 5) 0)) 7,
 vD (vT 20 22 (.ld false 1 (.s 21))) 15,
 vD (vT 20 23 (.mv (.s 3))) 7,
 vD (vT 20 24 (.mv (.s 6))) 7,
 vD (vT 20 25 (.ias 2 (.s 23) (.s 24))) 103,
 vD (vT 20 26 (.fa (.s 25) 1)) 231,
 vD (vT 20 27 (.ld false 1 (.s 26))) 487,
 vD (vT 20 28 (vc .add 27 1)) 999,
 vD (vT 20 29 (vb .leq 22 28)) 2047,
 vD (vP 30 (.pick (.s 20) (.s 29) (.c (.bool false)))) 4095])
 (.cond (.s 30) (.draw [vD (vM 31 3) 0,
 vD (vM 32 6) 0,
 vD (vM 33 3) 0,
 vD (vM 34 6) 0,
 vD (vI 35 2 33 34) 12,
 vD (vF 36 35 1) 28,
 vD (vL 37 1 36) 60,
 vD (vF 38 5 1) 0,
 vD (vL 39 1 38) 128,
 vD (vP 40 (.mm true (.s 37) (.s 39))) 508,
 vD (vI 41 2 31 32) 1023,
 vD (vF 42 41 1) 2047,
 ⟨⟨none, none, .inl (.st 1 (.s 42) (.s 40))⟩, (some [.at 3]), [], 4095, false⟩])
 (.region [vM 43 3,
 vP 44 (.ld true 2 (.s 5)),
 vP 45 (.bs 77 2 1 [(.int .i64 0), (.int .i64 0)] [(0, (.s 44))]),
 vP 46 (.app 77 2 16 (.s 43) (.s 45)),
 vM 3 46]))))))
 (.region [vP 47 (vc .add 11 1),
 vM 11 47])))
def k88 : Cd :=
  .seq (.region [vP 2 (.mv (.c (.slice none 0 0)))])
 (.seq (.region [vM 7 0,
 vN 8 147 [(.s 7), (.f 148)]])
 (.seq (.region [vP 3 (.mv (.c (.slice none 0 0)))])
 (.seq (.seq (.region [vM 9 0,
 vP 10 (.len (.s 9)),
 vP 11 (.mv (vi 0))])
 (.block 0 (.loop k88l0)))
 (.seq (.region [vM 48 3,
 vM 2 48])
 (.ret)))))
def k93 : Cd :=
  .seq (.region [vP 6 (.mv (vi 0))])
 (.seq (.seq (.region [vM 8 0,
 vP 9 (.len (.s 8)),
 vP 10 (vc .eql 9 0),
 vM 11 10,
 vU 11 12 (.mv (.s 2)),
 vU 11 13 (vc .lss 12 1),
 vP 14 (.pick (.s 11) (.c (.bool true)) (.s 13))])
 (.cond (.s 14) (.seq (.region [vP 6 (.mv (vi 0))])
 (.ret))
 (.skip)))
 (.seq (.region [vM 15 0,
 vM 16 1,
 vM 17 0,
 vP 18 (.len (.s 17)),
 vP 19 (vb .rem 16 18),
 vI 20 1 15 19,
 vL 21 1 20,
 vM 22 2,
 vP 23 (vb .rem 21 22),
 vM 7 23])
 (.seq (.seq (.region [vM 24 7,
 vP 25 (vc .lss 24 0)])
 (.cond (.s 25) (.region [vM 26 7,
 vM 27 2,
 vP 28 (vb .add 26 27),
 vM 7 28])
 (.skip)))
 (.seq (.region [vM 29 7,
 vM 6 29])
 (.ret)))))
def k94l0 : Cd :=
  .seq (.region [vP 12 (vb .lss 11 10)])
 (.seq (.cond (.s 12) (.skip)
 (.exit 0))
 (.seq (.block 1 (.seq (.region [vI 13 1 9 11,
 vL 14 1 13,
 vM 5 14])
 (.seq (.region [vM 15 3,
 vM 16 5,
 vP 17 (.len (.s 16)),
 vP 18 (vb .add 15 17),
 vM 3 18])
 (.seq (.region [vM 19 3,
 vP 20 (vc .lss 19 0)])
 (.cond (.s 20) (.region [⟨none, some 21, .inl (.mki 9 (.c (.string ⟨#[108, 101, 110, 32, 111, 117, 116, 32, 111, 102, 32, 114, 97, 110, 103, 101]⟩)))⟩,
 ⟨none, none, .inr (.pan (.s 21))⟩])
 (.skip))))))
 (.region [vP 22 (vc .add 11 1),
 vM 11 22])))
def k94l1 : Cd :=
  .seq (.region [vP 28 (vb .lss 27 26)])
 (.seq (.cond (.s 28) (.skip)
 (.exit 2))
 (.seq (.block 3 (.seq (.region [vI 29 1 25 27,
 vL 30 1 29,
 vM 8 30])
 (.region [vM 31 6,
 vM 32 8,
 vP 33 (.app 3 1 8 (.s 31) (.s 32)),
 vM 6 33])))
 (.region [vP 34 (vc .add 27 1),
 vM 27 34])))
def k94 : Cd :=
  .seq (.region [vP 2 (.mv (.c (.slice none 0 0)))])
 (.seq (.region [vP 3 (.mv (vi 0))])
 (.seq (.seq (.region [vM 9 0,
 vP 10 (.len (.s 9)),
 vP 11 (.mv (vi 0))])
 (.block 0 (.loop k94l0)))
 (.seq (.region [vM 23 3,
 vN 24 152 [(.c (.slice none 0 0)), (.s 23)],
 vM 6 24])
 (.seq (.seq (.region [vM 25 0,
 vP 26 (.len (.s 25)),
 vP 27 (.mv (vi 0))])
 (.block 2 (.loop k94l1)))
 (.seq (.region [vM 35 6,
 vM 2 35])
 (.ret))))))
def k95 : Cd :=
  .seq (.region [vP 4 (.mv (.c (.slice none 0 0))),
 vP 5 (.mv (vi 0))])
 (.seq (.seq (.region [vM 9 0,
 vN 10 127 [(.s 9)],
 vM 6 10])
 (.seq (.region [vM 11 6,
 vP 12 (vc .neq 11 0)])
 (.cond (.s 12) (.seq (.region [vM 13 6,
 vP 4 (.mv (.c (.slice none 0 0))),
 vM 5 13])
 (.ret))
 (.skip))))
 (.seq (.region [vM 15 0,
 vN 16 154 [(.s 15), (.f 155)],
 vN 17 153 [(.s 16)],
 vM 14 17,
 vP 18 (.ex (.s 14) 0),
 vP 19 (.ex (.s 14) 1),
 vP 7 (.alloc 181 [(.slice none 0 0), (.slice none 0 0)]),
 ⟨none, none, .inl (.st 2 (.s 7) (.s 18))⟩,
 vM 8 19])
 (.seq (.seq (.region [vM 20 8,
 vP 21 (.not (.s 20))])
 (.cond (.s 21) (.seq (.region [vP 4 (.mv (.c (.slice none 0 0))),
 vP 5 (.mv (vi 25))])
 (.ret))
 (.skip)))
 (.seq (.region [vP 22 (.ld true 2 (.s 7)),
 vN 23 156 [(.s 22)],
 vM 24 1,
 vN 25 157 [(.s 23), (.s 24)],
 vM 4 25,
 vP 5 (.mv (vi 0))])
 (.ret)))))
def k96l0 : Cd :=
  .seq (.region [vP 15 (vb .lss 14 13)])
 (.seq (.cond (.s 15) (.skip)
 (.exit 0))
 (.seq (.block 1 (.seq (.region [vI 16 1 12 14,
 vL 17 1 16,
 vM 8 17])
 (.region [vM 18 6,
 vM 19 8,
 vM 20 5,
 vM 21 8,
 vP 22 (.lk .int (.int .i64 0) false (.s 20) (.s 21)),
 vP 23 (.bld [(.int .i64 0), (.int .i64 0)] [(0, 1, (.s 19)), (1, 1, (.s 22))]),
 vP 24 (.bs 73 2 1 [(.int .i64 0), (.int .i64 0)] [(0, (.s 23))]),
 vP 25 (.app 73 2 16 (.s 18) (.s 24)),
 vM 6 25])))
 (.region [vP 26 (vc .add 14 1),
 vM 14 26])))
def k96 : Cd :=
  .seq (.region [vP 2 (.box 25 2 (.s 0)),
 vP 4 (.mv (.c (.slice none 0 0)))])
 (.seq (.region [vM 9 1,
 vN 10 106 [(.s 9)],
 vM 5 10])
 (.seq (.region [vP 6 (.mv (.c (.slice none 0 0)))])
 (.seq (.seq (.region [vP 11 (.ld true 2 (.s 2)),
 vN 12 101 [(.s 11)],
 vP 13 (.len (.s 12)),
 vP 14 (.mv (vi 0))])
 (.block 0 (.loop k96l0)))
 (.seq (.region [vM 27 6,
 vM 4 27])
 (.ret)))))
def k100l0 : Cd :=
  .seq (.region [vP 18 (vb .lss 17 16)])
 (.seq (.cond (.s 18) (.skip)
 (.exit 0))
 (.seq (.block 1 (.seq (.region [vM 19 17,
 vI 20 2 15 17,
 vP 21 (.ld true 2 (.s 20)),
 vP 8 (.alloc 73 [(.int .i64 0), (.int .i64 0)]),
 vM 7 19,
 ⟨none, none, .inl (.st 2 (.s 8) (.s 21))⟩])
 (.seq (.region [vM 22 1,
 vM 23 7,
 vI 24 1 22 23,
 vL 25 1 24,
 vM 9 25])
 (.seq (.region [vM 26 2,
 vP 27 (.ld true 2 (.s 8)),
 vM 28 9,
 ⟨none, some 29, .inr (.val false (.s 26) [(.s 27), (.s 28)])⟩,
 vP 30 (.not (.s 29))])
 (.cond (.s 30) (.seq (.region [vP 6 (.mv (.c (.bool false)))])
 (.ret))
 (.skip))))))
 (.region [vP 31 (vc .add 17 1),
 vM 17 31])))
def k100 : Cd :=
  .seq (.region [vP 6 (.mv (.c (.bool false)))])
 (.seq (.seq (.region [vM 10 0,
 vP 11 (.len (.s 10)),
 vM 12 1,
 vP 13 (.len (.s 12)),
 vP 14 (vb .neq 11 13)])
 (.cond (.s 14) (.seq (.region [vP 6 (.mv (.c (.bool false)))])
 (.ret))
 (.skip)))
 (.seq (.seq (.region [vM 15 0,
 vP 16 (.len (.s 15)),
 vP 17 (.mv (vi 0))])
 (.block 0 (.loop k100l0)))
 (.seq (.region [vP 6 (.mv (.c (.bool true)))])
 (.ret))))
def k101l0 : Cd :=
  .seq (.region [vP 22 (vb .lss 21 20)])
 (.seq (.cond (.s 22) (.skip)
 (.exit 2))
 (.seq (.block 3 (.seq (.region [vI 23 1 19 21,
 vL 24 1 23,
 vM 7 24])
 (.region [vM 25 7,
 vN 26 158 [(.s 3), (.s 25)]])))
 (.region [vP 27 (vc .add 21 1),
 vM 21 27])))
def k101l1 : Cd :=
  .seq (.region [vP 15 (vb .lss 14 13)])
 (.seq (.cond (.s 15) (.skip)
 (.exit 0))
 (.seq (.block 1 (.seq (.region [vI 16 2 12 14,
 vP 17 (.ld true 2 (.s 16)),
 vP 5 (.alloc 83 [(.int .i64 0), (.slice none 0 0)]),
 ⟨none, none, .inl (.st 2 (.s 5) (.s 17))⟩])
 (.seq (.region [vF 18 5 1,
 vL 19 1 18,
 vP 20 (.len (.s 19)),
 vP 21 (.mv (vi 0))])
 (.block 2 (.loop k101l0)))))
 (.region [vP 28 (vc .add 14 1),
 vM 14 28])))
def k101 : Cd :=
  .seq (.region [vP 1 (.box 25 2 (.s 0)),
 vP 2 (.mv (.c (.slice none 0 0)))])
 (.seq (.region [vP 3 (.alloc 196 [(.int .u64 0), (.int .u64 0), (.int .u64 0), (.int .u64 0), (.int .u64 0), (.int .u64 0), (.int .u64 0), (.int .u64 0), (.int .u64 0), (.int .u64 0), (.int .u64 0), (.int .u64 0), (.int .u64 0), (.int .u64 0), (.int .u64 0), (.int .u64 0), (.int .u64 0), (.int .u64 0), (.int .u64 0), (.int .u64 0), (.int .u64 0), (.int .u64 0), (.int .u64 0), (.int .u64 0), (.int .u64 0), (.int .u64 0), (.int .u64 0), (.int .u64 0), (.int .u64 0), (.int .u64 0), (.int .u64 0), (.int .u64 0), (.int .u64 0)])])
 (.seq (.region [vF 8 1 0,
 vL 9 1 8,
 vN 10 158 [(.s 3), (.s 9)]])
 (.seq (.seq (.region [vF 11 1 1,
 vL 12 1 11,
 vP 13 (.len (.s 12)),
 vP 14 (.mv (vi 0))])
 (.block 0 (.loop k101l1)))
 (.seq (.region [vN 29 159 [(.s 3)],
 vM 2 29])
 (.ret)))))
def k102 : Cd :=
  .seq (.region [vP 2 (.box 73 2 (.s 0)),
 vP 4 (.mv (.c (.bool false)))])
 (.seq (.region [vF 5 2 0,
 vL 6 1 5,
 vM 7 1,
 vP 8 (vb .eql 6 7),
 vM 4 8])
 (.ret))
def k103 : Cd :=
  .seq (.region [vP 4 (.mv (.c (.bool false)))])
 (.seq (.region [vM 5 0,
 vM 6 1,
 vN 7 160 [(.s 5), (.s 6)],
 vP 8 (vc .geq 7 0),
 vM 4 8])
 (.ret))
def k104 : Cd :=
  .seq (.region [vP 1 (.box 73 2 (.s 0)),
 vP 2 (.mv (.c (.bool false)))])
 (.seq (.region [vP 3 (.ld true 2 (.s 1)),
 vN 4 105 [(.s 3)],
 vP 5 (.not (.s 4)),
 vM 2 5])
 (.ret))
def k105 : Cd :=
  .seq (.region [vP 1 (.box 73 2 (.s 0)),
 vP 2 (.mv (.c (.bool false)))])
 (.seq (.seq (.region [vF 3 1 0,
 vL 4 1 3,
 vP 5 (vc .eql 4 0)])
 (.cond (.s 5) (.seq (.region [vF 6 1 1,
 vL 7 1 6,
 vP 8 (vc .eql 7 0),
 vM 2 8])
 (.ret))
 (.skip)))
 (.seq (.region [vF 9 1 1,
 vL 10 1 9,
 vN 11 58 [(.s 10), (.c (.int .i64 (-1000000000))), (vi 1000000000)],
 vM 2 11])
 (.ret)))
def k106l0 : Cd :=
  .seq (.region [vP 12 (vb .lss 11 10)])
 (.seq (.cond (.s 12) (.skip)
 (.exit 0))
 (.seq (.block 1 (.seq (.region [vI 13 2 9 11,
 vP 14 (.ld true 2 (.s 13)),
 vP 5 (.alloc 73 [(.int .i64 0), (.int .i64 0)]),
 ⟨none, none, .inl (.st 2 (.s 5) (.s 14))⟩])
 (.region [vM 15 3,
 vF 16 5 0,
 vL 17 1 16,
 vF 18 5 1,
 vL 19 1 18,
 ⟨none, none, .inl (.upd .int (.s 15) (.s 17) (.s 19))⟩])))
 (.region [vP 20 (vc .add 11 1),
 vM 11 20])))
def k106 : Cd :=
  .seq (.region [vP 2 (.mv (.c (.map none)))])
 (.seq (.region [vM 6 0,
 vP 7 (.len (.s 6)),
 vP 8 (.mkmc (.s 7)),
 vM 3 8])
 (.seq (.seq (.region [vM 9 0,
 vP 10 (.len (.s 9)),
 vP 11 (.mv (vi 0))])
 (.block 0 (.loop k106l0)))
 (.seq (.region [vM 21 3,
 vM 2 21])
 (.ret))))
def k107 : Cd :=
  .seq (.region [vP 3 (.mv (.c (.bool false)))])
 (.seq (.region [vM 4 0,
 vP 5 (.mkf (.func 109) [] [(.s 1)]),
 vN 6 108 [(.s 4), (.s 5)],
 vP 7 (.not (.s 6)),
 vM 3 7])
 (.ret))
def k108 : Cd :=
  .seq (.region [vP 4 (.mv (.c (.bool false)))])
 (.seq (.region [vM 5 0,
 vM 6 1,
 vN 7 161 [(.s 5), (.s 6)],
 vP 8 (vc .geq 7 0),
 vM 4 8])
 (.ret))
def k109 : Cd :=
  .seq (.region [vP 2 (.box 96 5 (.s 0)),
 vP 3 (.mv (.c (.bool false)))])
 (.seq (.region [vL 4 1 1,
 vF 5 2 1,
 vL 6 1 5,
 vP 7 (.lk .int (.int .i64 0) false (.s 4) (.s 6)),
 vL 8 1 1,
 vF 9 2 0,
 vL 10 1 9,
 vP 11 (.lk .int (.int .i64 0) false (.s 8) (.s 10)),
 vP 12 (vb .sub 7 11),
 vF 13 2 2,
 vL 14 1 13,
 vF 15 2 3,
 vL 16 1 15,
 vN 17 58 [(.s 12), (.s 14), (.s 16)],
 vP 18 (.not (.s 17)),
 vM 3 18])
 (.ret))
def k110l0 : Cd :=
  .seq (.region [vP 9 (vb .lss 8 7)])
 (.seq (.cond (.s 9) (.skip)
 (.exit 0))
 (.seq (.block 1 (.seq (.region [vM 10 8,
 vM 5 10])
 (.seq (.region [vM 11 1,
 vM 12 0,
 vM 13 5,
 vI 14 1 12 13,
 vL 15 1 14,
 ⟨none, some 16, .inr (.val false (.s 11) [(.s 15)])⟩])
 (.cond (.s 16) (.seq (.region [vM 17 5,
 vM 4 17])
 (.ret))
 (.skip)))))
 (.region [vP 18 (vc .add 8 1),
 vM 8 18])))
def k110 : Cd :=
  .seq (.region [vP 4 (.mv (vi 0))])
 (.seq (.seq (.region [vM 6 0,
 vP 7 (.len (.s 6)),
 vP 8 (.mv (vi 0))])
 (.block 0 (.loop k110l0)))
 (.seq (.region [vP 4 (.mv (.c (.int .i64 (-1))))])
 (.ret)))
def k111l0 : Cd :=
  .seq (.region [vP 10 (vb .lss 9 8)])
 (.seq (.cond (.s 10) (.skip)
 (.exit 0))
 (.seq (.block 1 (.seq (.region [vI 11 2 7 9,
 vP 12 (.ld true 2 (.s 11)),
 vP 6 (.alloc 73 [(.int .i64 0), (.int .i64 0)]),
 ⟨none, none, .inl (.st 2 (.s 6) (.s 12))⟩])
 (.seq (.region [vF 13 6 0,
 vL 14 1 13,
 vM 15 1,
 vP 16 (vb .eql 14 15)])
 (.cond (.s 16) (.seq (.region [vF 17 6 1,
 vL 18 1 17,
 vM 4 18])
 (.ret))
 (.skip)))))
 (.region [vP 19 (vc .add 9 1),
 vM 9 19])))
def k111 : Cd :=
  .seq (.region [vP 4 (.mv (vi 0))])
 (.seq (.seq (.region [vM 7 0,
 vP 8 (.len (.s 7)),
 vP 9 (.mv (vi 0))])
 (.block 0 (.loop k111l0)))
 (.seq (.region [vP 4 (.mv (vi 0))])
 (.ret)))
def k112l0 : Cd :=
  .seq (.region [vP 9 (vb .lss 8 7)])
 (.seq (.cond (.s 9) (.skip)
 (.exit 0))
 (.seq (.block 1 (.seq (.region [vI 10 2 6 8,
 vP 11 (.ld true 2 (.s 10)),
 vP 5 (.alloc 73 [(.int .i64 0), (.int .i64 0)]),
 ⟨none, none, .inl (.st 2 (.s 5) (.s 11))⟩])
 (.region [vM 12 3,
 vF 13 5 0,
 vL 14 1 13,
 vP 15 (.bs 3 1 1 [(.int .i64 0)] [(0, (.s 14))]),
 vP 16 (.app 3 1 8 (.s 12) (.s 15)),
 vM 3 16])))
 (.region [vP 17 (vc .add 8 1),
 vM 8 17])))
def k112 : Cd :=
  .seq (.region [vP 2 (.mv (.c (.slice none 0 0)))])
 (.seq (.region [vP 3 (.mv (.c (.slice none 0 0)))])
 (.seq (.seq (.region [vM 6 0,
 vP 7 (.len (.s 6)),
 vP 8 (.mv (vi 0))])
 (.block 0 (.loop k112l0)))
 (.seq (.region [vM 18 3,
 vM 2 18])
 (.ret))))
def k113l0 : Cd :=
  .seq (.region [vP 8 (vb .lss 7 6)])
 (.seq (.cond (.s 8) (.skip)
 (.exit 0))
 (.seq (.block 1 (.seq (.region [vI 9 2 5 7,
 vP 10 (.ld true 2 (.s 9)),
 vP 4 (.alloc 73 [(.int .i64 0), (.int .i64 0)]),
 ⟨none, none, .inl (.st 2 (.s 4) (.s 10))⟩])
 (.seq (.region [vF 11 4 1,
 vL 12 1 11,
 vN 13 162 [(.s 12), (.c (.int .i64 (-1000000000))), (vi 1000000000)],
 vP 14 (.not (.s 13)),
 vM 15 14,
 vU 15 16 (.fa (.s 4) 0),
 vU 15 17 (.ld false 1 (.s 16)),
 vU 15 18 (vc .eql 17 0),
 vU 15 19 (.mv (.s 18)),
 vT 19 20 (.fa (.s 4) 1),
 vT 19 21 (.ld false 1 (.s 20)),
 vT 19 22 (vc .neq 21 0),
 vU 15 23 (.pick (.s 19) (.s 22) (.c (.bool false))),
 vP 24 (.pick (.s 15) (.c (.bool true)) (.s 23))])
 (.cond (.s 24) (.seq (.region [vP 2 (.mv (.c (.bool false)))])
 (.ret))
 (.skip)))))
 (.region [vP 25 (vc .add 7 1),
 vM 7 25])))
def k113 : Cd :=
  .seq (.region [vP 2 (.mv (.c (.bool false)))])
 (.seq (.seq (.region [vM 5 0,
 vP 6 (.len (.s 5)),
 vP 7 (.mv (vi 0))])
 (.block 0 (.loop k113l0)))
 (.seq (.region [vP 2 (.mv (.c (.bool true)))])
 (.ret)))
def k114l0 : Cd :=
  .seq (.region [vP 28 (vb .lss 27 26)])
 (.seq (.cond (.s 28) (.skip)
 (.exit 4))
 (.seq (.block 5 (.seq (.region [vM 29 27,
 vM 9 29])
 (.region [vM 30 6,
 vP 31 (.bs 3 1 0 [(.int .i64 0)] []),
 vM 32 8,
 vP 33 (.app 3 1 8 (.s 31) (.s 32)),
 vM 34 9,
 vP 35 (.bs 3 1 1 [(.int .i64 0)] [(0, (.s 34))]),
 vP 36 (.app 3 1 8 (.s 33) (.s 35)),
 vP 37 (.bs 26 1 1 [(.slice none 0 0)] [(0, (.s 36))]),
 vP 38 (.app 26 1 24 (.s 30) (.s 37)),
 vM 6 38])))
 (.region [vP 39 (vc .add 27 1),
 vM 27 39])))
def k114l1 : Cd :=
  .seq (.region [vP 21 (vb .lss 20 19)])
 (.seq (.cond (.s 21) (.skip)
 (.exit 2))
 (.seq (.block 3 (.seq (.region [vI 22 1 18 20,
 vL 23 1 22,
 vM 8 23])
 (.seq (.region [vF 24 5 1,
 vL 25 1 24,
 vP 26 (.len (.s 25)),
 vP 27 (.mv (vi 0))])
 (.block 4 (.loop k114l0)))))
 (.region [vP 40 (vc .add 20 1),
 vM 20 40])))
def k114l2 : Cd :=
  .seq (.region [vP 15 (vb .lss 14 13)])
 (.seq (.cond (.s 15) (.skip)
 (.exit 0))
 (.seq (.block 1 (.seq (.region [vI 16 2 12 14,
 vP 17 (.ld true 2 (.s 16)),
 vP 5 (.alloc 83 [(.int .i64 0), (.slice none 0 0)]),
 ⟨none, none, .inl (.st 2 (.s 5) (.s 17))⟩])
 (.seq (.region [vP 6 (.mv (.c (.slice none 0 0)))])
 (.seq (.seq (.region [vM 18 3,
 vP 19 (.len (.s 18)),
 vP 20 (.mv (vi 0))])
 (.block 2 (.loop k114l1)))
 (.region [vM 41 6,
 vM 3 41])))))
 (.region [vP 42 (vc .add 14 1),
 vM 14 42])))
def k114 : Cd :=
  .seq (.region [vP 1 (.box 25 2 (.s 0)),
 vP 2 (.mv (.c (.slice none 0 0)))])
 (.seq (.region [vP 10 (.bs 26 1 1 [(.slice none 0 0)] [(0, (.c (.slice none 0 0)))]),
 vM 3 10])
 (.seq (.seq (.region [vF 11 1 1,
 vL 12 1 11,
 vP 13 (.len (.s 12)),
 vP 14 (.mv (vi 0))])
 (.block 0 (.loop k114l2)))
 (.seq (.region [vM 43 3,
 vM 2 43])
 (.ret))))
def k119l0 : Cd :=
  .seq (.region [vP 10 (vb .lss 9 8)])
 (.seq (.cond (.s 10) (.skip)
 (.exit 0))
 (.seq (.block 1 (.seq (.region [vI 11 5 7 9,
 vP 12 (.ld true 5 (.s 11)),
 vP 6 (.alloc 96 [(.int .i64 0), (.int .i64 0), (.int .i64 0), (.int .i64 0), (.int .i64 0)]),
 ⟨none, none, .inl (.st 5 (.s 6) (.s 12))⟩])
 (.draw [vD (vM 13 0) 0,
 vD (vF 14 6 0) 0,
 vD (vL 15 1 14) 2,
 vD (vN 16 84 [(.s 13), (.s 15)]) 7,
 vD (vF 17 6 1) 0,
 vD (vL 18 1 17) 16,
 vD (vN 19 84 [(.s 16), (.s 18)]) 63,
 vD (vM 0 19) 127])))
 (.region [vP 20 (vc .add 9 1),
 vM 9 20])))
def k119 : Cd :=
  .seq (.region [vP 4 (.mv (.c (.slice none 0 0)))])
 (.seq (.seq (.region [vM 7 1,
 vP 8 (.len (.s 7)),
 vP 9 (.mv (vi 0))])
 (.block 0 (.loop k119l0)))
 (.seq (.region [vM 21 0,
 vM 4 21])
 (.ret)))
def k120l0 : Cd :=
  .region [vM 8 26]
def k120l1 : Cd :=
  .block 1 (.seq (.region [vP 27 (.ld true 2 (.s 6)),
 vM 28 8,
 vN 29 169 [(.s 27), (.s 28)]])
 (.cond (.s 29) (.region [vF 30 6 1,
 vL 31 1 30,
 vM 32 8,
 ⟨none, none, .inl (.upd .int (.s 31) (.s 32) (.c (.bool false)))⟩])
 (.skip)))
def k120 : Cd :=
  .seq (.region [vP 2 (.mv (.c (.slice none 0 0))),
 vP 3 (.mv (vi 0))])
 (.seq (.seq (.region [vM 9 0,
 vN 10 127 [(.s 9)],
 vM 4 10])
 (.seq (.region [vM 11 4,
 vP 12 (vc .neq 11 0)])
 (.cond (.s 12) (.seq (.region [vM 13 4,
 vP 2 (.mv (.c (.slice none 0 0))),
 vM 3 13])
 (.ret))
 (.skip))))
 (.seq (.region [vM 14 0,
 vN 15 165 [(.s 14)],
 vM 5 15])
 (.seq (.region [vM 16 0,
 vM 17 5,
 vN 18 166 [(.s 17)],
 vP 19 (.bld [(.slice none 0 0), (.map none)] [(0, 1, (.s 16)), (1, 1, (.s 18))]),
 vP 6 (.alloc 204 [(.slice none 0 0), (.map none)]),
 ⟨none, none, .inl (.st 2 (.s 6) (.s 19))⟩])
 (.seq (.seq (.region [vP 20 (.ld true 2 (.s 6)),
 vN 21 167 [(.s 20)],
 vP 22 (.not (.s 21))])
 (.cond (.s 22) (.seq (.region [vP 2 (.mv (.c (.slice none 0 0))),
 vP 3 (.mv (vi 4))])
 (.ret))
 (.skip)))
 (.seq (.seq (.region [vM 23 5,
 vN 24 168 [(.s 23)]])
 (.block 0 (.rangeF (.s 24) [25, 26] k120l0 k120l1)))
 (.seq (.region [vM 33 5,
 vP 34 (.mkf (.func 171) [] [(.s 6)]),
 vN 35 170 [(.s 33), (.s 34)],
 vM 2 35,
 vP 3 (.mv (vi 0))])
 (.ret)))))))
def k122l0 : Cd :=
  .seq (.region [vP 11 (vb .lss 10 9)])
 (.seq (.cond (.s 11) (.skip)
 (.exit 0))
 (.seq (.block 1 (.seq (.region [vI 12 5 8 10,
 vP 13 (.ld true 5 (.s 12)),
 vP 4 (.alloc 96 [(.int .i64 0), (.int .i64 0), (.int .i64 0), (.int .i64 0), (.int .i64 0)]),
 ⟨none, none, .inl (.st 5 (.s 4) (.s 13))⟩])
 (.seq (.region [vP 14 (.ld true 5 (.s 4)),
 vN 15 172 [(.s 14)],
 vP 16 (vc .neq 15 0)])
 (.cond (.s 16) (.seq (.region [vP 2 (.mv (vi 20))])
 (.ret))
 (.skip)))))
 (.region [vP 17 (vc .add 10 1),
 vM 10 17])))
def k122 : Cd :=
  .seq (.region [vP 2 (.mv (vi 0))])
 (.seq (.seq (.region [vM 5 0,
 vP 6 (.len (.s 5)),
 vP 7 (vc .gtr 6 400)])
 (.cond (.s 7) (.seq (.region [vP 2 (.mv (vi 2))])
 (.ret))
 (.skip)))
 (.seq (.seq (.region [vM 8 0,
 vP 9 (.len (.s 8)),
 vP 10 (.mv (vi 0))])
 (.block 0 (.loop k122l0)))
 (.seq (.seq (.region [vM 18 0,
 vN 19 138 [(.s 18)],
 vP 20 (.len (.s 19)),
 vP 21 (vc .gtr 20 64)])
 (.cond (.s 21) (.seq (.region [vP 2 (.mv (vi 2))])
 (.ret))
 (.skip)))
 (.seq (.region [vP 2 (.mv (vi 0))])
 (.ret)))))
def k127l0 : Cd :=
  .seq (.region [vP 12 (vb .lss 11 10)])
 (.seq (.cond (.s 12) (.skip)
 (.exit 0))
 (.seq (.block 1 (.seq (.region [vI 13 5 9 11,
 vP 14 (.ld true 5 (.s 13)),
 vP 4 (.alloc 96 [(.int .i64 0), (.int .i64 0), (.int .i64 0), (.int .i64 0), (.int .i64 0)]),
 ⟨none, none, .inl (.st 5 (.s 4) (.s 14))⟩])
 (.seq (.region [vP 15 (.ld true 5 (.s 4)),
 vN 16 173 [(.s 15)],
 vM 5 16])
 (.seq (.region [vM 17 5,
 vP 18 (vc .neq 17 0)])
 (.cond (.s 18) (.seq (.region [vM 19 5,
 vM 2 19])
 (.ret))
 (.skip))))))
 (.region [vP 20 (vc .add 11 1),
 vM 11 20])))
def k127 : Cd :=
  .seq (.region [vP 2 (.mv (vi 0))])
 (.seq (.seq (.region [vM 6 0,
 vP 7 (.len (.s 6)),
 vP 8 (vc .gtr 7 400)])
 (.cond (.s 8) (.seq (.region [vP 2 (.mv (vi 2))])
 (.ret))
 (.skip)))
 (.seq (.seq (.region [vM 9 0,
 vP 10 (.len (.s 9)),
 vP 11 (.mv (vi 0))])
 (.block 0 (.loop k127l0)))
 (.seq (.seq (.region [vM 21 0,
 vN 22 174 [(.s 21)],
 vP 23 (.len (.s 22)),
 vP 24 (vc .gtr 23 64)])
 (.cond (.s 24) (.seq (.region [vP 2 (.mv (vi 2))])
 (.ret))
 (.skip)))
 (.seq (.region [vP 2 (.mv (vi 0))])
 (.ret)))))
def k128l0 : Cd :=
  .seq (.region [vP 28 (vb .lss 27 26)])
 (.seq (.cond (.s 28) (.skip)
 (.exit 2))
 (.seq (.block 3 (.seq (.region [vI 29 5 25 27,
 vP 30 (.ld true 5 (.s 29)),
 vP 6 (.alloc 96 [(.int .i64 0), (.int .i64 0), (.int .i64 0), (.int .i64 0), (.int .i64 0)]),
 ⟨none, none, .inl (.st 5 (.s 6) (.s 30))⟩])
 (.seq (.region [vF 31 6 4,
 vL 32 1 31,
 vF 33 1 0,
 vL 34 1 33,
 vP 35 (vb .neq 32 34),
 vM 36 35,
 vU 36 37 (.ld true 5 (.s 6)),
 ⟨some (36, false), some 38, .inr (.fn 173 [(.s 37)])⟩,
 vU 36 39 (vc .neq 38 0),
 vP 40 (.pick (.s 36) (.c (.bool true)) (.s 39))])
 (.cond (.s 40) (.seq (.region [vP 2 (.mv (vi 50))])
 (.ret))
 (.skip)))))
 (.region [vP 41 (vc .add 27 1),
 vM 27 41])))
def k128l1 : Cd :=
  .seq (.region [vP 22 (vb .lss 21 20)])
 (.seq (.cond (.s 22) (.skip)
 (.exit 0))
 (.seq (.block 1 (.seq (.region [vI 23 1 19 21,
 vL 24 1 23,
 vM 4 24])
 (.seq (.region [vM 25 4,
 vP 26 (.len (.s 25)),
 vP 27 (.mv (vi 0))])
 (.block 2 (.loop k128l0)))))
 (.region [vP 42 (vc .add 21 1),
 vM 21 42])))
def k128 : Cd :=
  .seq (.region [vP 1 (.box 83 2 (.s 0)),
 vP 2 (.mv (vi 0))])
 (.seq (.seq (.region [vF 7 1 0,
 vL 8 1 7,
 vN 9 58 [(.s 8), (vi 1), (vi 99999)],
 vP 10 (.not (.s 9)),
 vM 11 10,
 vU 11 12 (.fa (.s 1) 1),
 vU 11 13 (.ld false 1 (.s 12)),
 vU 11 14 (.len (.s 13)),
 ⟨some (11, false), some 15, .inr (.fn 58 [(.s 14), (vi 1), (vi 60)])⟩,
 vU 11 16 (.not (.s 15)),
 vP 17 (.pick (.s 11) (.c (.bool true)) (.s 16))])
 (.cond (.s 17) (.seq (.region [vP 2 (.mv (vi 50))])
 (.ret))
 (.skip)))
 (.seq (.seq (.region [vF 18 1 1,
 vL 19 1 18,
 vP 20 (.len (.s 19)),
 vP 21 (.mv (vi 0))])
 (.block 0 (.loop k128l1)))
 (.seq (.region [vP 2 (.mv (vi 0))])
 (.ret))))
def k129l0 : Cd :=
  .seq (.region [vP 10 (vb .lss 9 8)])
 (.seq (.cond (.s 10) (.skip)
 (.exit 0))
 (.seq (.block 1 (.seq (.region [vI 11 1 7 9,
 vL 12 1 11,
 vM 5 12])
 (.region [vM 13 3,
 vM 14 5,
 vP 15 (.len (.s 14)),
 vP 16 (.mm true (.s 13) (.s 15)),
 vM 3 16])))
 (.region [vP 17 (vc .add 9 1),
 vM 9 17])))
def k129 : Cd :=
  .seq (.region [vP 1 (.box 83 2 (.s 0)),
 vP 2 (.mv (vi 0))])
 (.seq (.region [vP 3 (.mv (vi 0))])
 (.seq (.seq (.region [vF 6 1 1,
 vL 7 1 6,
 vP 8 (.len (.s 7)),
 vP 9 (.mv (vi 0))])
 (.block 0 (.loop k129l0)))
 (.seq (.region [vM 18 3,
 vM 2 18])
 (.ret))))
def k130l0 : Cd :=
  .seq (.region [vP 37 (vb .lss 36 35)])
 (.seq (.cond (.s 37) (.skip)
 (.exit 2))
 (.seq (.block 3 (.seq (.region [vI 38 5 34 36,
 vP 39 (.ld true 5 (.s 38)),
 vP 6 (.alloc 96 [(.int .i64 0), (.int .i64 0), (.int .i64 0), (.int .i64 0), (.int .i64 0)]),
 ⟨none, none, .inl (.st 5 (.s 6) (.s 39))⟩])
 (.seq (.region [vP 40 (.ld true 5 (.s 6)),
 vN 41 172 [(.s 40)],
 vP 42 (vc .neq 41 0),
 vM 43 42,
 vU 43 44 (.fa (.s 6) 4),
 vU 43 45 (.ld false 1 (.s 44)),
 vU 43 46 (.fa (.s 1) 0),
 vU 43 47 (.ld false 1 (.s 46)),
 vU 43 48 (vb .neq 45 47),
 vP 49 (.pick (.s 43) (.c (.bool true)) (.s 48))])
 (.cond (.s 49) (.seq (.region [vP 2 (.mv (vi 50))])
 (.ret))
 (.skip)))))
 (.region [vP 50 (vc .add 36 1),
 vM 36 50])))
def k130l1 : Cd :=
  .seq (.region [vP 31 (vb .lss 30 29)])
 (.seq (.cond (.s 31) (.skip)
 (.exit 0))
 (.seq (.block 1 (.seq (.region [vI 32 1 28 30,
 vL 33 1 32,
 vM 4 33])
 (.seq (.region [vM 34 4,
 vP 35 (.len (.s 34)),
 vP 36 (.mv (vi 0))])
 (.block 2 (.loop k130l0)))))
 (.region [vP 51 (vc .add 30 1),
 vM 30 51])))
def k130 : Cd :=
  .seq (.region [vP 1 (.box 83 2 (.s 0)),
 vP 2 (.mv (vi 0))])
 (.seq (.seq (.region [vF 7 1 0,
 vL 8 1 7,
 vP 9 (vc .lss 8 1),
 vM 10 9,
 vU 10 11 (.fa (.s 1) 0),
 vU 10 12 (.ld false 1 (.s 11)),
 vU 10 13 (vc .gtr 12 99999),
 vP 14 (.pick (.s 10) (.c (.bool true)) (.s 13)),
 vM 15 14,
 vU 15 16 (.fa (.s 1) 1),
 vU 15 17 (.ld false 1 (.s 16)),
 vU 15 18 (.len (.s 17)),
 vU 15 19 (vc .lss 18 1),
 vP 20 (.pick (.s 15) (.c (.bool true)) (.s 19)),
 vM 21 20,
 vU 21 22 (.fa (.s 1) 1),
 vU 21 23 (.ld false 1 (.s 22)),
 vU 21 24 (.len (.s 23)),
 vU 21 25 (vc .gtr 24 60),
 vP 26 (.pick (.s 21) (.c (.bool true)) (.s 25))])
 (.cond (.s 26) (.seq (.region [vP 2 (.mv (vi 50))])
 (.ret))
 (.skip)))
 (.seq (.seq (.region [vF 27 1 1,
 vL 28 1 27,
 vP 29 (.len (.s 28)),
 vP 30 (.mv (vi 0))])
 (.block 0 (.loop k130l1)))
 (.seq (.region [vP 2 (.mv (vi 0))])
 (.ret))))
def k136 : Cd :=
  .seq (.region [vP 4 (.mv (.c (.slice none 0 0)))])
 (.seq (.region [vM 6 1,
 vP 7 (.len (.s 6)),
 vP 8 (vc .add 7 1),
 vP 9 (.mks 3 1 8 [(.int .i64 0)] (.s 8) (.s 8)),
 vM 5 9])
 (.seq (.region [vM 10 5,
 vM 11 1,
 vP 12 (.cpy 1 (.s 10) (.s 11))])
 (.seq (.region [vM 13 5,
 vM 14 1,
 vP 15 (.len (.s 14)),
 vM 16 0,
 vI 17 1 13 15,
 ⟨none, none, .inl (.st 1 (.s 17) (.s 16))⟩])
 (.seq (.region [vM 18 5,
 vM 4 18])
 (.ret)))))
def k137 : Cd :=
  .seq (.region [vP 2 (.mv (.c (.slice none 0 0))),
 vP 3 (.mv (vi 0))])
 (.seq (.seq (.region [vM 5 0,
 vN 6 127 [(.s 5)],
 vM 4 6])
 (.seq (.region [vM 7 4,
 vP 8 (vc .neq 7 0)])
 (.cond (.s 8) (.seq (.region [vM 9 4,
 vP 2 (.mv (.c (.slice none 0 0))),
 vM 3 9])
 (.ret))
 (.skip))))
 (.seq (.region [vM 10 0,
 vN 11 154 [(.s 10), (.f 155)],
 vN 12 176 [(.s 11)],
 vM 2 12,
 vP 3 (.mv (vi 0))])
 (.ret)))
def k138l0 : Cd :=
  .seq (.region [vP 9 (vb .lss 8 7)])
 (.seq (.cond (.s 9) (.skip)
 (.exit 0))
 (.seq (.block 1 (.seq (.region [vI 10 5 6 8,
 vP 11 (.ld true 5 (.s 10)),
 vP 5 (.alloc 96 [(.int .i64 0), (.int .i64 0), (.int .i64 0), (.int .i64 0), (.int .i64 0)]),
 ⟨none, none, .inl (.st 5 (.s 5) (.s 11))⟩])
 (.draw [vD (vM 12 3) 0,
 vD (vF 13 5 0) 0,
 vD (vL 14 1 13) 2,
 vD (vN 15 84 [(.s 12), (.s 14)]) 7,
 vD (vF 16 5 1) 0,
 vD (vL 17 1 16) 16,
 vD (vN 18 84 [(.s 15), (.s 17)]) 63,
 vD (vM 3 18) 127])))
 (.region [vP 19 (vc .add 8 1),
 vM 8 19])))
def k138 : Cd :=
  .seq (.region [vP 2 (.mv (.c (.slice none 0 0)))])
 (.seq (.region [vP 3 (.mv (.c (.slice none 0 0)))])
 (.seq (.seq (.region [vM 6 0,
 vP 7 (.len (.s 6)),
 vP 8 (.mv (vi 0))])
 (.block 0 (.loop k138l0)))
 (.seq (.region [vM 20 3,
 vM 2 20])
 (.ret))))
def k141l0 : Cd :=
  .seq (.region [vP 34 (vb .lss 33 32)])
 (.seq (.cond (.s 34) (.skip)
 (.exit 0))
 (.seq (.block 1 (.seq (.region [vM 35 33,
 vM 7 35])
 (.seq (.draw [⟨vL 36 1 3, some [], [.at 7, .at 0], 0, false⟩,
 vD (vM 37 7) 0,
 vD (vM 38 0) 0,
 ⟨vN 39 136 [(.s 37), (.s 38)], (some [.at 7, .at 0]), [], 6, false⟩,
 ⟨⟨none, some 40, .inr (.val false (.s 36) [(.s 39)])⟩, none, [], 15, false⟩,
 vD (vP 41 (.not (.s 40))) 31])
 (.cond (.s 41) (.seq (.region [vP 5 (.mv (.c (.bool false)))])
 (.ret))
 (.skip)))))
 (.region [vP 42 (vc .add 33 1),
 vM 33 42])))
def k141 : Cd :=
  .seq (.region [vP 5 (.mv (.c (.bool false)))])
 (.seq (.region [vP 8 (.ld true 2 (.s 1)),
 vM 9 0,
 vN 10 59 [(.s 8), (.s 9)],
 vM 6 10])
 (.seq (.seq (.region [vM 11 6,
 vN 12 72 [(.s 11)],
 vP 13 (.len (.s 12)),
 vP 14 (vc .gtr 13 0)])
 (.cond (.s 14) (.seq (.region [vP 5 (.mv (.c (.bool true)))])
 (.ret))
 (.skip)))
 (.seq (.seq (.region [vM 15 0,
 vP 16 (.len (.s 15)),
 vF 17 1 1,
 vL 18 1 17,
 vP 19 (.len (.s 18)),
 vP 20 (vb .eql 16 19)])
 (.cond (.s 20) (.seq (.region [vL 21 1 2,
 vM 22 0,
 vM 23 6,
 ⟨none, some 24, .inr (.val false (.s 21) [(.s 22), (.s 23)])⟩,
 vM 5 24])
 (.ret))
 (.skip)))
 (.seq (.seq (.region [vF 25 1 1,
 vL 26 1 25,
 vM 27 0,
 vP 28 (.len (.s 27)),
 vI 29 2 26 28,
 vF 30 29 1,
 vL 31 1 30,
 vP 32 (.len (.s 31)),
 vP 33 (.mv (vi 0))])
 (.block 0 (.loop k141l0)))
 (.seq (.region [vP 5 (.mv (.c (.bool true)))])
 (.ret))))))
def k145 : Cd :=
  .seq (.region [vP 4 (.mv (.c (.bool false)))])
 (.seq (.region [vM 5 0,
 vM 6 1,
 vN 7 179 [(.s 5), (.s 6)],
 vP 8 (vc .geq 7 0),
 vM 4 8])
 (.ret))
def k146 : Cd :=
  .seq (.region [vP 6 (.mv (vi 0)),
 vP 7 (.mv (vi 0)),
 vP 8 (.mv (vi 0))])
 (.seq (.region [vM 11 0,
 vM 12 1,
 vM 13 2,
 vN 14 180 [(.s 11), (.s 12), (.s 13)],
 vM 10 14,
 vP 15 (.ex (.s 10) 0),
 vP 16 (.ex (.s 10) 1),
 vP 9 (.alloc 214 [(.slice none 0 0), (.slice none 0 0), (.int .i64 0), (.int .i64 0)]),
 ⟨none, none, .inl (.st 4 (.s 9) (.s 15))⟩,
 vM 8 16])
 (.seq (.seq (.region [vM 17 8,
 vP 18 (vc .neq 17 0)])
 (.cond (.s 18) (.seq (.region [vM 19 8,
 vP 6 (.mv (vi 0)),
 vP 7 (.mv (vi 0)),
 vM 8 19])
 (.ret))
 (.skip)))
 (.seq (.draw [vD (vF 20 9 0) 0,
 vD (vF 21 20 0) 1,
 vD (vF 22 21 1) 3,
 vD (vL 23 1 22) 7,
 vD (vF 24 9 3) 0,
 vD (vL 25 1 24) 16,
 vD (vI 26 1 23 25) 63,
 vD (vL 27 1 26) 127,
 vD (vF 28 9 2) 0,
 vD (vL 29 1 28) 256,
 vD (vI 30 1 27 29) 1023,
 vD (vL 31 1 30) 2047,
 vD (vP 32 (.neg (.s 31))) 4095,
 vD (vF 33 9 0) 0,
 vD (vF 34 33 0) 8192,
 vD (vF 35 34 1) 24576,
 vD (vL 36 1 35) 57344,
 vD (vF 37 9 2) 0,
 vD (vL 38 1 37) 131072,
 vD (vI 39 1 36 38) 516096,
 vD (vL 40 1 39) 1040384,
 vD (vF 41 9 3) 0,
 vD (vL 42 1 41) 2097152,
 vD (vI 43 1 40 42) 8380416,
 vD (vL 44 1 43) 16769024,
 vD (vM 6 32) 8191,
 vD (vM 7 44) 67108863,
 vD (vP 8 (.mv (vi 0))) 134217727])
 (.ret))))
def k147 : Cd :=
  .seq (.region [vM 5 0,
 vP 6 (.len (.s 5)),
 vM 4 6])
 (.region [vM 7 0,
 vM 8 4,
 vM 9 4,
 vP 10 (.cvi .u64 (.s 9)),
 vN 11 182 [(.s 10)],
 vM 12 1,
 vN 13 181 [(.s 7), (vi 0), (.s 8), (.s 11), (.s 12)]])
def k148 : Cd :=
  .seq (.region [vP 2 (.box 77 2 (.s 0)),
 vP 3 (.box 77 2 (.s 1)),
 vP 4 (.mv (vi 0))])
 (.seq (.region [vF 5 2 0,
 vL 6 1 5,
 vF 7 3 0,
 vL 8 1 7,
 vN 9 149 [(.s 6), (.s 8)],
 vM 4 9])
 (.ret))
def k149 : Cd :=
  .seq (.region [vP 4 (.mv (vi 0))])
 (.seq (.region [vM 7 0,
 vN 8 183 [(.s 7)],
 vM 5 8])
 (.seq (.region [vM 9 1,
 vN 10 183 [(.s 9)],
 vM 6 10])
 (.seq (.seq (.region [vM 11 5])
 (.cond (.s 11) (.seq (.seq (.region [vM 12 6])
 (.cond (.s 12) (.seq (.region [vP 4 (.mv (vi 0))])
 (.ret))
 (.skip)))
 (.seq (.region [vP 4 (.mv (.c (.int .i64 (-1))))])
 (.ret)))
 (.skip)))
 (.seq (.seq (.region [vM 13 6])
 (.cond (.s 13) (.seq (.region [vP 4 (.mv (vi 1))])
 (.ret))
 (.skip)))
 (.seq (.seq (.region [vM 14 0,
 vM 15 1,
 vP 16 (vb .lss 14 15)])
 (.cond (.s 16) (.seq (.region [vP 4 (.mv (.c (.int .i64 (-1))))])
 (.ret))
 (.skip)))
 (.seq (.seq (.region [vM 17 0,
 vM 18 1,
 vP 19 (vb .gtr 17 18)])
 (.cond (.s 19) (.seq (.region [vP 4 (.mv (vi 1))])
 (.ret))
 (.skip)))
 (.seq (.region [vP 4 (.mv (vi 0))])
 (.ret))))))))
def k152 : Cd :=
  .seq (.region [vP 4 (.mv (.c (.slice none 0 0)))])
 (.seq (.seq (.region [vM 5 1,
 vP 6 (vc .lss 5 0)])
 (.cond (.s 6) (.region [⟨none, some 7, .inl (.mki 9 (.c (.string ⟨#[99, 97, 110, 110, 111, 116, 32, 98, 101, 32, 110, 101, 103, 97, 116, 105, 118, 101]⟩)))⟩,
 ⟨none, none, .inr (.pan (.s 7))⟩])
 (.skip)))
 (.seq (.seq (.region [vM 8 1,
 vM 9 0,
 vP 10 (.cap (.s 9)),
 vM 11 0,
 vP 12 (.len (.s 11)),
 vP 13 (vb .sub 10 12),
 vP 14 (vb .sub 8 13),
 vM 1 14])
 (.seq (.region [vM 15 1,
 vP 16 (vc .gtr 15 0)])
 (.cond (.s 16) (.region [vM 17 0,
 vM 18 0,
 vP 19 (.cap (.s 18)),
 vP 20 (.slc 1 (.s 17) none (some (.s 19)) none),
 vM 21 1,
 vP 22 (.apz 3 1 8 [(.int .i64 0)] (.s 20) (.s 21)),
 vM 23 0,
 vP 24 (.len (.s 23)),
 vP 25 (.slc 1 (.s 22) none (some (.s 24)) none),
 vM 0 25])
 (.skip))))
 (.seq (.region [vM 26 0,
 vM 4 26])
 (.ret))))
def k153l0 : Cd :=
  .seq (.region [vP 17 (vb .lss 16 15)])
 (.seq (.cond (.s 17) (.skip)
 (.exit 0))
 (.seq (.block 1 (.seq (.region [vI 18 5 14 16,
 vP 19 (.ld true 5 (.s 18)),
 vP 5 (.alloc 224 [(.int .i64 0), (.bool false), (.int .i64 0), (.int .i64 0), (.int .i64 0)]),
 ⟨none, none, .inl (.st 5 (.s 5) (.s 19))⟩])
 (.region [vP 20 (.ld true 2 (.s 2)),
 vF 21 5 2,
 vL 22 1 21,
 vF 23 5 3,
 vL 24 1 23,
 vF 25 5 4,
 vL 26 1 25,
 vN 27 187 [(.s 20), (.s 22), (.s 24), (.s 26)]])))
 (.region [vP 28 (vc .add 16 1),
 vM 16 28])))
def k153l1 : Cd :=
  .seq (.region [vP 34 (vb .lss 33 32)])
 (.seq (.cond (.s 34) (.skip)
 (.exit 2))
 (.seq (.block 3 (.seq (.region [vM 35 33,
 vM 6 35])
 (.region [vP 36 (.ld true 2 (.s 2)),
 vM 37 6,
 vN 38 188 [(.s 36), (.s 37)]])))
 (.region [vP 39 (vc .add 33 1),
 vM 33 39])))
def k153 : Cd :=
  .seq (.region [vP 1 (.box 186 2 (.s 0)),
 vP 2 (.alloc 181 [(.slice none 0 0), (.slice none 0 0)]),
 vP 3 (.mv (.c (.bool false)))])
 (.seq (.seq (.region [vP 7 (.ld true 2 (.s 1)),
 vN 8 185 [(.s 7)]])
 (.cond (.s 8) (.seq (.region [vP 9 (.bld [(.slice none 0 0), (.slice none 0 0)] []),
 ⟨none, none, .inl (.st 2 (.s 2) (.s 9))⟩,
 vP 3 (.mv (.c (.bool false)))])
 (.ret))
 (.skip)))
 (.seq (.region [vF 10 1 0,
 vL 11 1 10,
 vN 12 186 [(.s 11)],
 ⟨none, none, .inl (.st 2 (.s 2) (.s 12))⟩])
 (.seq (.seq (.region [vF 13 1 1,
 vL 14 1 13,
 vP 15 (.len (.s 14)),
 vP 16 (.mv (vi 0))])
 (.block 0 (.loop k153l0)))
 (.seq (.seq (.region [vF 29 2 0,
 vF 30 29 0,
 vL 31 1 30,
 vP 32 (.len (.s 31)),
 vP 33 (.mv (vi 0))])
 (.block 2 (.loop k153l1)))
 (.seq (.region [vP 40 (.ld true 2 (.s 2)),
 ⟨none, none, .inl (.st 2 (.s 2) (.s 40))⟩,
 vP 3 (.mv (.c (.bool true)))])
 (.ret))))))
def k154l0 : Cd :=
  .seq (.region [vP 19 (vb .lss 18 17)])
 (.seq (.cond (.s 19) (.skip)
 (.exit 0))
 (.seq (.block 1 (.seq (.region [vM 20 18,
 vI 21 5 16 18,
 vP 22 (.ld true 5 (.s 21)),
 vP 7 (.alloc 96 [(.int .i64 0), (.int .i64 0), (.int .i64 0), (.int .i64 0), (.int .i64 0)]),
 vM 6 20,
 ⟨none, none, .inl (.st 5 (.s 7) (.s 22))⟩])
 (.seq (.region [vM 23 1,
 vM 24 6,
 ⟨none, some 25, .inr (.val false (.s 23) [(.s 24)])⟩])
 (.cond (.s 25) (.region [vM 26 5,
 vP 27 (.ld true 5 (.s 7)),
 vP 28 (.bs 96 5 1 [(.int .i64 0), (.int .i64 0), (.int .i64 0), (.int .i64 0), (.int .i64 0)] [(0, (.s 27))]),
 vP 29 (.app 96 5 40 (.s 26) (.s 28)),
 vM 5 29])
 (.skip)))))
 (.region [vP 30 (vc .add 18 1),
 vM 18 30])))
def k154l1 : Cd :=
  .seq (.region [vP 41 (vb .lss 40 39)])
 (.seq (.cond (.s 41) (.skip)
 (.exit 2))
 (.seq (.block 3 (.seq (.region [vM 42 40,
 vI 43 5 38 40,
 vP 44 (.ld true 5 (.s 43)),
 vP 10 (.alloc 96 [(.int .i64 0), (.int .i64 0), (.int .i64 0), (.int .i64 0), (.int .i64 0)]),
 vM 9 42,
 ⟨none, none, .inl (.st 5 (.s 10) (.s 44))⟩])
 (.seq (.seq (.region [vM 45 1,
 vM 46 9,
 ⟨none, some 47, .inr (.val false (.s 45) [(.s 46)])⟩,
 vP 48 (.not (.s 47))])
 (.cond (.s 48) (.exit 3)
 (.skip)))
 (.seq (.draw [vD (vF 49 8 0) 0,
 vD (vL 50 1 49) 1,
 vD (vF 51 10 0) 0,
 vD (vL 52 1 51) 4,
 vD (vN 53 189 [(.s 50), (.s 52)]) 15,
 vD (vF 54 8 0) 0,
 vD (vL 55 1 54) 32,
 vD (vF 56 10 1) 0,
 vD (vL 57 1 56) 128,
 vD (vN 58 189 [(.s 55), (.s 57)]) 511,
 vD (vM 11 53) 1023,
 vD (vM 12 58) 2047])
 (.region [vF 59 8 1,
 vL 60 1 59,
 vM 61 9,
 vP 62 (.bld [(.int .i64 0), (.bool false)] [(0, 1, (.s 61))]),
 vM 63 11,
 vM 64 12,
 vF 65 10 3,
 vL 66 1 65,
 vP 67 (.bld [(.int .i64 0), (.bool false), (.int .i64 0), (.int .i64 0), (.int .i64 0)] [(0, 2, (.s 62)), (2, 1, (.s 63)), (3, 1, (.s 64)), (4, 1, (.s 66))]),
 vM 68 9,
 vP 69 (.bld [(.int .i64 0), (.bool false)] [(0, 1, (.s 68)), (1, 1, (.c (.bool true)))]),
 vM 70 12,
 vM 71 11,
 vF 72 10 2,
 vL 73 1 72,
 vP 74 (.neg (.s 73)),
 vP 75 (.bld [(.int .i64 0), (.bool false), (.int .i64 0), (.int .i64 0), (.int .i64 0)] [(0, 2, (.s 69)), (2, 1, (.s 70)), (3, 1, (.s 71)), (4, 1, (.s 74))]),
 vP 76 (.bs 224 5 2 [(.int .i64 0), (.bool false), (.int .i64 0), (.int .i64 0), (.int .i64 0)] [(0, (.s 67)), (1, (.s 75))]),
 vP 77 (.app 224 5 40 (.s 60) (.s 76)),
 vF 78 8 1,
 ⟨none, none, .inl (.st 1 (.s 78) (.s 77))⟩])))))
 (.region [vP 79 (vc .add 40 1),
 vM 40 79])))
def k154 : Cd :=
  .seq (.region [vP 4 (.alloc 186 [(.slice none 0 0), (.slice none 0 0)])])
 (.seq (.region [vM 13 0,
 vP 14 (.len (.s 13)),
 vP 15 (.mks 96 5 40 [(.int .i64 0), (.int .i64 0), (.int .i64 0), (.int .i64 0), (.int .i64 0)] (vi 0) (.s 14)),
 vM 5 15])
 (.seq (.seq (.region [vM 16 0,
 vP 17 (.len (.s 16)),
 vP 18 (.mv (vi 0))])
 (.block 0 (.loop k154l0)))
 (.seq (.draw [vD (vM 31 5) 0,
 ⟨vN 32 174 [(.s 31)], (some [.at 5]), [.fr 36, .fr 8], 1, false⟩,
 vD (vM 33 5) 0,
 vD (vP 34 (.len (.s 33))) 4,
 vD (vP 35 (.bin .mul (vi 2) (.s 34))) 12,
 ⟨vP 36 (.mks 224 5 40 [(.int .i64 0), (.bool false), (.int .i64 0), (.int .i64 0), (.int .i64 0)] (vi 0) (.s 35)), (some [.fr 36]), [.at 5, .fr 8], 28, false⟩,
 vD (vP 37 (.bld [(.slice none 0 0), (.slice none 0 0)] [(0, 1, (.s 32)), (1, 1, (.s 36))])) 63,
 ⟨vP 8 (.alloc 186 [(.slice none 0 0), (.slice none 0 0)]), (some [.fr 8]), [.at 5, .fr 36], 0, false⟩,
 ⟨⟨none, none, .inl (.st 2 (.s 8) (.s 37))⟩, (some [.fr 8]), [], 255, false⟩])
 (.seq (.seq (.region [vM 38 0,
 vP 39 (.len (.s 38)),
 vP 40 (.mv (vi 0))])
 (.block 2 (.loop k154l1)))
 (.seq (.region [vP 80 (.ld true 2 (.s 8)),
 ⟨none, none, .inl (.st 2 (.s 4) (.s 80))⟩])
 (.ret))))))
def k155 : Cd :=
  .seq (.region [vP 2 (.mv (.c (.bool false)))])
 (.seq (.region [vP 2 (.mv (.c (.bool true)))])
 (.ret))
def k156 : Cd :=
  .seq (.region [vP 1 (.box 181 2 (.s 0)),
 vP 2 (.alloc 190 [(.slice none 0 0), (.slice none 0 0), (.slice none 0 0), (.slice none 0 0)])])
 (.seq (.draw [⟨vP 3 (.ld true 2 (.s 1)), some [], [.fr 8, .fr 13], 0, false⟩,
 vD (vF 4 1 0) 0,
 vD (vF 5 4 0) 2,
 ⟨vL 6 1 5, some [], [.fr 13], 6, false⟩,
 vD (vP 7 (.len (.s 6))) 14,
 ⟨vP 8 (.mks 3 1 8 [(.int .i64 0)] (.s 7) (.s 7)), (some [.fr 8]), [.fr 13], 30, false⟩,
 vD (vF 9 1 0) 0,
 vD (vF 10 9 0) 64,
 ⟨vL 11 1 10, some [], [.fr 8], 192, false⟩,
 vD (vP 12 (.len (.s 11))) 448,
 ⟨vP 13 (.mks 4 1 1 [(.bool false)] (.s 12) (.s 12)), (some [.fr 13]), [.fr 8], 960, false⟩,
 vD (vP 14 (.bld [(.slice none 0 0), (.slice none 0 0), (.slice none 0 0), (.slice none 0 0)] [(0, 2, (.s 3)), (2, 1, (.s 8)), (3, 1, (.s 13))])) 2047,
 ⟨⟨none, none, .inl (.st 4 (.s 2) (.s 14))⟩, (some [.at 2]), [], 4095, false⟩])
 (.ret))
def k157l0 : Cd :=
  .seq (.region [vP 24 (vb .lss 23 22)])
 (.seq (.cond (.s 24) (.skip)
 (.exit 0))
 (.seq (.block 1 (.seq (.region [vM 25 23,
 vI 26 1 21 23,
 vL 27 1 26,
 vM 7 25,
 vM 8 27])
 (.seq (.seq (.region [vF 28 2 3,
 vL 29 1 28,
 vM 30 7,
 vI 31 1 29 30,
 vL 32 1 31,
 vP 33 (.not (.s 32))])
 (.cond (.s 33) (.seq (.region [vP 35 (.ld true 4 (.s 2)),
 vM 36 7,
 vN 37 190 [(.s 35), (.s 36)],
 vM 34 37,
 vP 38 (.ex (.s 34) 0),
 vP 39 (.ex (.s 34) 1),
 vP 40 (.ex (.s 34) 2),
 vM 9 38,
 vM 10 39,
 vM 11 40])
 (.seq (.region [vM 41 11])
 (.cond (.s 41) (.region [vP 42 (.ld true 4 (.s 2)),
 vM 43 7,
 vN 44 191 [(.s 42), (.s 43), (vi 0)]])
 (.seq (.draw [vD (vP 45 (.ld true 4 (.s 2))) 0,
 vD (vM 46 7) 0,
 vD (vM 47 9) 0,
 vD (vM 48 1) 0,
 vD (vM 49 5) 0,
 vD (vM 50 10) 0,
 vD (vM 51 9) 0,
 vD (vP 52 (vb .sub 50 51)) 96,
 vD (vP 53 (vc .add 52 1)) 224,
 vD (vN 54 93 [(.s 48), (.s 49), (.s 53)]) 504,
 vD (vP 55 (vb .add 47 54)) 1020,
 ⟨vN 56 191 [(.s 45), (.s 46), (.s 55)], none, [], 2047, false⟩])
 (.region [vM 57 5,
 vP 58 (vc .add 57 1),
 vM 5 58])))))
 (.skip)))
 (.region [vM 59 6,
 vM 60 8,
 vF 61 2 2,
 vL 62 1 61,
 vM 63 7,
 vI 64 1 62 63,
 vL 65 1 64,
 vP 66 (.bld [(.int .i64 0), (.int .i64 0)] [(0, 1, (.s 60)), (1, 1, (.s 65))]),
 vP 67 (.bs 73 2 1 [(.int .i64 0), (.int .i64 0)] [(0, (.s 66))]),
 vP 68 (.app 73 2 16 (.s 59) (.s 67)),
 vM 6 68]))))
 (.region [vP 69 (vc .add 23 1),
 vM 23 69])))
def k157 : Cd :=
  .seq (.region [vP 2 (.box 190 4 (.s 0)),
 vP 4 (.mv (.c (.slice none 0 0)))])
 (.seq (.region [vP 5 (.mv (vi 0))])
 (.seq (.region [vF 12 2 0,
 vF 13 12 0,
 vF 14 13 0,
 vL 15 1 14,
 vP 16 (.len (.s 15)),
 vP 17 (.mks 73 2 16 [(.int .i64 0), (.int .i64 0)] (vi 0) (.s 16)),
 vM 6 17])
 (.seq (.seq (.region [vF 18 2 0,
 vF 19 18 0,
 vF 20 19 0,
 vL 21 1 20,
 vP 22 (.len (.s 21)),
 vP 23 (.mv (vi 0))])
 (.block 0 (.loop k157l0)))
 (.seq (.region [vM 70 6,
 vM 4 70])
 (.ret)))))
def k158l0 : Cd :=
  .seq (.region [vP 9 (vb .lss 8 7)])
 (.seq (.cond (.s 9) (.skip)
 (.exit 0))
 (.seq (.block 1 (.seq (.region [vI 10 5 6 8,
 vP 11 (.ld true 5 (.s 10)),
 vP 5 (.alloc 96 [(.int .i64 0), (.int .i64 0), (.int .i64 0), (.int .i64 0), (.int .i64 0)]),
 ⟨none, none, .inl (.st 5 (.s 5) (.s 11))⟩])
 (.seq (.region [vM 12 0,
 vF 13 5 0,
 vL 14 1 13,
 vN 15 192 [(.s 12), (.s 14)]])
 (.region [vM 16 0,
 vF 17 5 1,
 vL 18 1 17,
 vN 19 192 [(.s 16), (.s 18)]]))))
 (.region [vP 20 (vc .add 8 1),
 vM 8 20])))
def k158 : Cd :=
  .seq (.region [vM 6 1,
 vP 7 (.len (.s 6)),
 vP 8 (.mv (vi 0))])
 (.block 0 (.loop k158l0))
def k159l0 : Cd :=
  .seq (.seq (.region [vM 14 5,
 vP 15 (.bin .neq (.s 14) (.c (.int .u64 0)))])
 (.cond (.s 15) (.skip)
 (.exit 2)))
 (.seq (.block 3 (.region [vM 20 3,
 vM 21 4,
 vP 22 (.bin .mul (vi 64) (.s 21)),
 vM 23 5,
 vN 24 193 [(.s 23)],
 vP 25 (vb .add 22 24),
 vP 26 (.bs 3 1 1 [(.int .i64 0)] [(0, (.s 25))]),
 vP 27 (.app 3 1 8 (.s 20) (.s 26)),
 vM 3 27]))
 (.region [vM 16 5,
 vM 17 5,
 vP 18 (.bin .sub (.s 17) (.c (.int .u64 1))),
 vP 19 (vb .and 16 18),
 vM 5 19]))
def k159l1 : Cd :=
  .seq (.region [vP 11 (vc .lss 10 33)])
 (.seq (.cond (.s 11) (.skip)
 (.exit 0))
 (.seq (.block 1 (.seq (.region [vM 12 10,
 vP 13 (.ixa false 1 33 (.s 9) (.s 10)),
 vM 4 12,
 vM 5 13])
 (.block 2 (.loop k159l0))))
 (.region [vP 28 (vc .add 10 1),
 vM 10 28])))
def k159 : Cd :=
  .seq (.region [vP 2 (.mv (.c (.slice none 0 0)))])
 (.seq (.region [vP 3 (.mv (.c (.slice none 0 0)))])
 (.seq (.seq (.region [vM 6 0,
 vP 7 (.nc (.s 6)),
 vF 8 7 0,
 vP 9 (.ld true 33 (.s 8)),
 vP 10 (.mv (vi 0))])
 (.block 0 (.loop k159l1)))
 (.seq (.region [vM 29 3,
 vM 2 29])
 (.ret))))
def k160l0 : Cd :=
  .seq (.region [vP 9 (vb .lss 8 7)])
 (.seq (.cond (.s 9) (.skip)
 (.exit 0))
 (.seq (.block 1 (.seq (.region [vM 10 8,
 vM 5 10])
 (.seq (.region [vM 11 1,
 vM 12 0,
 vM 13 5,
 vI 14 2 12 13,
 vP 15 (.ld true 2 (.s 14)),
 ⟨none, some 16, .inr (.val false (.s 11) [(.s 15)])⟩])
 (.cond (.s 16) (.seq (.region [vM 17 5,
 vM 4 17])
 (.ret))
 (.skip)))))
 (.region [vP 18 (vc .add 8 1),
 vM 8 18])))
def k160 : Cd :=
  .seq (.region [vP 4 (.mv (vi 0))])
 (.seq (.seq (.region [vM 6 0,
 vP 7 (.len (.s 6)),
 vP 8 (.mv (vi 0))])
 (.block 0 (.loop k160l0)))
 (.seq (.region [vP 4 (.mv (.c (.int .i64 (-1))))])
 (.ret)))
def k161l0 : Cd :=
  .seq (.region [vP 9 (vb .lss 8 7)])
 (.seq (.cond (.s 9) (.skip)
 (.exit 0))
 (.seq (.block 1 (.seq (.region [vM 10 8,
 vM 5 10])
 (.seq (.region [vM 11 1,
 vM 12 0,
 vM 13 5,
 vI 14 5 12 13,
 vP 15 (.ld true 5 (.s 14)),
 ⟨none, some 16, .inr (.val false (.s 11) [(.s 15)])⟩])
 (.cond (.s 16) (.seq (.region [vM 17 5,
 vM 4 17])
 (.ret))
 (.skip)))))
 (.region [vP 18 (vc .add 8 1),
 vM 8 18])))
def k161 : Cd :=
  .seq (.region [vP 4 (.mv (vi 0))])
 (.seq (.seq (.region [vM 6 0,
 vP 7 (.len (.s 6)),
 vP 8 (.mv (vi 0))])
 (.block 0 (.loop k161l0)))
 (.seq (.region [vP 4 (.mv (.c (.int .i64 (-1))))])
 (.ret)))
def k162 : Cd :=
  .seq (.region [vP 6 (.mv (.c (.bool false)))])
 (.seq (.region [vM 7 1,
 vM 8 0,
 vP 9 (vb .leq 7 8),
 vM 10 9,
 vT 10 11 (.mv (.s 0)),
 vT 10 12 (.mv (.s 2)),
 vT 10 13 (vb .leq 11 12),
 vP 14 (.pick (.s 10) (.s 13) (.c (.bool false))),
 vM 6 14])
 (.ret))
def k165l0 : Cd :=
  .seq (.region [vP 15 (vb .lss 14 13)])
 (.seq (.cond (.s 15) (.skip)
 (.exit 0))
 (.seq (.block 1 (.seq (.region [vI 16 5 12 14,
 vP 17 (.ld true 5 (.s 16)),
 vP 5 (.alloc 96 [(.int .i64 0), (.int .i64 0), (.int .i64 0), (.int .i64 0), (.int .i64 0)]),
 ⟨none, none, .inl (.st 5 (.s 5) (.s 17))⟩])
 (.region [vM 18 3,
 vF 19 5 4,
 vL 20 1 19,
 vP 21 (.bs 3 1 1 [(.int .i64 0)] [(0, (.s 20))]),
 vP 22 (.app 3 1 8 (.s 18) (.s 21)),
 vM 3 22])))
 (.region [vP 23 (vc .add 14 1),
 vM 14 23])))
def k165 : Cd :=
  .seq (.region [vP 2 (.mv (.c (.slice none 0 0)))])
 (.seq (.seq (.region [vM 6 0,
 vN 7 127 [(.s 6)],
 vP 8 (vc .neq 7 0)])
 (.cond (.s 8) (.seq (.region [vP 2 (.mv (.c (.slice none 0 0)))])
 (.ret))
 (.skip)))
 (.seq (.region [vM 9 0,
 vP 10 (.len (.s 9)),
 vP 11 (.mks 3 1 8 [(.int .i64 0)] (vi 0) (.s 10)),
 vM 3 11])
 (.seq (.seq (.region [vM 12 0,
 vP 13 (.len (.s 12)),
 vP 14 (.mv (vi 0))])
 (.block 0 (.loop k165l0)))
 (.seq (.region [vM 24 3,
 vN 25 198 [(.s 24)],
 vM 2 25])
 (.ret)))))
def k166l0 : Cd :=
  .seq (.region [vP 12 (vb .lss 11 10)])
 (.seq (.cond (.s 12) (.skip)
 (.exit 0))
 (.seq (.block 1 (.seq (.region [vI 13 1 9 11,
 vL 14 1 13,
 vM 5 14])
 (.region [vM 15 3,
 vM 16 5,
 ⟨none, none, .inl (.upd .int (.s 15) (.s 16) (.c (.bool true)))⟩])))
 (.region [vP 17 (vc .add 11 1),
 vM 11 17])))
def k166 : Cd :=
  .seq (.region [vP 2 (.mv (.c (.map none)))])
 (.seq (.region [vM 6 0,
 vP 7 (.len (.s 6)),
 vP 8 (.mkmc (.s 7)),
 vM 3 8])
 (.seq (.seq (.region [vM 9 0,
 vP 10 (.len (.s 9)),
 vP 11 (.mv (vi 0))])
 (.block 0 (.loop k166l0)))
 (.seq (.region [vM 18 3,
 vM 2 18])
 (.ret))))
def k167 : Cd :=
  .seq (.region [vP 1 (.box 204 2 (.s 0)),
 vP 2 (.mv (.c (.bool false)))])
 (.seq (.region [vF 3 1 0,
 vL 4 1 3,
 vP 5 (.mkf (.func 199) [] [(.s 1)]),
 vN 6 154 [(.s 4), (.s 5)],
 vN 7 185 [(.s 6)],
 vM 2 7])
 (.ret))
def k168 : Cd :=
  .seq (.region [vP 1 (.box 26 1 (.s 0)),
 vP 2 (.mv (.c .nilFunc))])
 (.seq (.region [vP 3 (.mkf (.func 200) [] [(.s 1)]),
 vM 2 3])
 (.ret))
def k169 : Cd :=
  .seq (.region [vP 2 (.box 204 2 (.s 0)),
 vP 4 (.mv (.c (.bool false)))])
 (.seq (.region [vF 6 2 1,
 vL 7 1 6,
 vM 8 1,
 ⟨none, none, .inl (.upd .int (.s 7) (.s 8) (.c (.bool false)))⟩])
 (.seq (.region [vP 9 (.ld true 2 (.s 2)),
 vN 10 167 [(.s 9)],
 vM 5 10])
 (.seq (.region [vF 11 2 1,
 vL 12 1 11,
 vM 13 1,
 ⟨none, none, .inl (.upd .int (.s 12) (.s 13) (.c (.bool true)))⟩])
 (.seq (.region [vM 14 5,
 vM 4 14])
 (.ret)))))
def k170l0 : Cd :=
  .seq (.seq (.region [vM 16 6,
 vM 17 0,
 vP 18 (.len (.s 17)),
 vP 19 (vb .lss 16 18)])
 (.cond (.s 19) (.skip)
 (.exit 0)))
 (.seq (.block 1 (.seq (.region [vM 22 0,
 vM 23 6,
 vI 24 1 22 23,
 vL 25 1 24,
 vM 7 25])
 (.seq (.region [vM 26 1,
 vM 27 7,
 ⟨none, some 28, .inr (.val false (.s 26) [(.s 27)])⟩,
 vP 29 (.not (.s 28))])
 (.cond (.s 29) (.seq (.region [vM 30 0,
 vM 31 5,
 vM 32 7,
 vI 33 1 30 31,
 ⟨none, none, .inl (.st 1 (.s 33) (.s 32))⟩])
 (.region [vM 34 5,
 vP 35 (vc .add 34 1),
 vM 5 35]))
 (.skip)))))
 (.region [vM 20 6,
 vP 21 (vc .add 20 1),
 vM 6 21]))
def k170 : Cd :=
  .seq (.region [vP 4 (.mv (.c (.slice none 0 0)))])
 (.seq (.region [vM 8 0,
 vM 9 1,
 vN 10 201 [(.s 8), (.s 9)],
 vM 5 10])
 (.seq (.seq (.region [vM 11 5,
 vP 12 (.bin .eql (.s 11) (.c (.int .i64 (-1))))])
 (.cond (.s 12) (.seq (.region [vM 13 0,
 vM 4 13])
 (.ret))
 (.skip)))
 (.seq (.seq (.region [vM 14 5,
 vP 15 (vc .add 14 1),
 vM 6 15])
 (.block 0 (.loop k170l0)))
 (.seq (.region [vM 36 0,
 vM 37 5,
 vP 38 (.slc 1 (.s 36) (some (.s 37)) none none),
 ⟨none, none, .inl (.clr [(.int .i64 0)] (.s 38))⟩])
 (.seq (.region [vM 39 0,
 vM 40 5,
 vP 41 (.slc 1 (.s 39) none (some (.s 40)) none),
 vM 4 41])
 (.ret))))))
def k171 : Cd :=
  .seq (.region [vP 3 (.mv (.c (.bool false)))])
 (.seq (.region [vF 4 1 1,
 vL 5 1 4,
 vM 6 0,
 vP 7 (.lk .int (.bool false) false (.s 5) (.s 6)),
 vP 8 (.not (.s 7)),
 vM 3 8])
 (.ret))
def k172 : Cd :=
  .seq (.region [vP 1 (.box 96 5 (.s 0)),
 vP 2 (.mv (vi 0))])
 (.seq (.seq (.region [vF 3 1 0,
 vL 4 1 3,
 vN 5 162 [(.s 4), (vi 0), (vi 2048)],
 vP 6 (.not (.s 5)),
 vM 7 6,
 vU 7 8 (.fa (.s 1) 1),
 vU 7 9 (.ld false 1 (.s 8)),
 ⟨some (7, false), some 10, .inr (.fn 162 [(.s 9), (vi 0), (vi 2048)])⟩,
 vU 7 11 (.not (.s 10)),
 vP 12 (.pick (.s 7) (.c (.bool true)) (.s 11)),
 vM 13 12,
 vU 13 14 (.fa (.s 1) 0),
 vU 13 15 (.ld false 1 (.s 14)),
 vU 13 16 (.fa (.s 1) 1),
 vU 13 17 (.ld false 1 (.s 16)),
 vU 13 18 (vb .eql 15 17),
 vP 19 (.pick (.s 13) (.c (.bool true)) (.s 18)),
 vM 20 19,
 vU 20 21 (.fa (.s 1) 2),
 vU 20 22 (.ld false 1 (.s 21)),
 ⟨some (20, false), some 23, .inr (.fn 162 [(.s 22), (.c (.int .i64 (-100000))), (vi 100000)])⟩,
 vU 20 24 (.not (.s 23)),
 vP 25 (.pick (.s 20) (.c (.bool true)) (.s 24)),
 vM 26 25,
 vU 26 27 (.fa (.s 1) 3),
 vU 26 28 (.ld false 1 (.s 27)),
 vU 26 29 (.fa (.s 1) 2),
 vU 26 30 (.ld false 1 (.s 29)),
 ⟨some (26, false), some 31, .inr (.fn 162 [(.s 28), (.s 30), (vi 100000)])⟩,
 vU 26 32 (.not (.s 31)),
 vP 33 (.pick (.s 26) (.c (.bool true)) (.s 32)),
 vM 34 33,
 vU 34 35 (.fa (.s 1) 4),
 vU 34 36 (.ld false 1 (.s 35)),
 ⟨some (34, false), some 37, .inr (.fn 162 [(.s 36), (vi 1), (vi 99999)])⟩,
 vU 34 38 (.not (.s 37)),
 vP 39 (.pick (.s 34) (.c (.bool true)) (.s 38))])
 (.cond (.s 39) (.seq (.region [vP 2 (.mv (vi 20))])
 (.ret))
 (.skip)))
 (.seq (.region [vP 2 (.mv (vi 0))])
 (.ret)))
def k173 : Cd :=
  .seq (.region [vP 1 (.box 96 5 (.s 0)),
 vP 2 (.mv (vi 0))])
 (.seq (.region [vF 5 1 0,
 vL 6 1 5,
 vN 7 195 [(.s 6), (vi 0), (vi 2048)],
 vM 8 7,
 vT 8 9 (.fa (.s 1) 1),
 vT 8 10 (.ld false 1 (.s 9)),
 ⟨some (8, true), some 11, .inr (.fn 195 [(.s 10), (vi 0), (vi 2048)])⟩,
 vP 12 (.pick (.s 8) (.s 11) (.c (.bool false))),
 vM 13 12,
 vT 13 14 (.fa (.s 1) 0),
 vT 13 15 (.ld false 1 (.s 14)),
 vT 13 16 (.fa (.s 1) 1),
 vT 13 17 (.ld false 1 (.s 16)),
 vT 13 18 (vb .neq 15 17),
 vP 19 (.pick (.s 13) (.s 18) (.c (.bool false))),
 vM 3 19])
 (.seq (.region [vF 20 1 2,
 vL 21 1 20,
 vF 22 1 3,
 vL 23 1 22,
 vN 24 195 [(.s 21), (.c (.int .i64 (-100000))), (.s 23)],
 vM 25 24,
 vT 25 26 (.fa (.s 1) 3),
 vT 25 27 (.ld false 1 (.s 26)),
 vT 25 28 (vc .leq 27 100000),
 vP 29 (.pick (.s 25) (.s 28) (.c (.bool false))),
 vM 4 29])
 (.seq (.seq (.region [vM 30 3,
 vP 31 (.not (.s 30)),
 vM 32 31,
 vU 32 33 (.mv (.s 4)),
 vU 32 34 (.not (.s 33)),
 vP 35 (.pick (.s 32) (.c (.bool true)) (.s 34)),
 vM 36 35,
 vU 36 37 (.fa (.s 1) 4),
 vU 36 38 (.ld false 1 (.s 37)),
 ⟨some (36, false), some 39, .inr (.fn 195 [(.s 38), (vi 1), (vi 99999)])⟩,
 vU 36 40 (.not (.s 39)),
 vP 41 (.pick (.s 36) (.c (.bool true)) (.s 40))])
 (.cond (.s 41) (.seq (.region [vP 2 (.mv (vi 20))])
 (.ret))
 (.skip)))
 (.seq (.region [vP 2 (.mv (vi 0))])
 (.ret)))))
def k174 : Cd :=
  .seq (.region [vP 2 (.mv (.c (.slice none 0 0)))])
 (.seq (.region [vP 3 (.alloc 196 [(.int .u64 0), (.int .u64 0), (.int .u64 0), (.int .u64 0), (.int .u64 0), (.int .u64 0), (.int .u64 0), (.int .u64 0), (.int .u64 0), (.int .u64 0), (.int .u64 0), (.int .u64 0), (.int .u64 0), (.int .u64 0), (.int .u64 0), (.int .u64 0), (.int .u64 0), (.int .u64 0), (.int .u64 0), (.int .u64 0), (.int .u64 0), (.int .u64 0), (.int .u64 0), (.int .u64 0), (.int .u64 0), (.int .u64 0), (.int .u64 0), (.int .u64 0), (.int .u64 0), (.int .u64 0), (.int .u64 0), (.int .u64 0), (.int .u64 0)])])
 (.seq (.region [vM 4 0,
 vN 5 158 [(.s 3), (.s 4)]])
 (.seq (.region [vN 6 159 [(.s 3)],
 vM 2 6])
 (.ret))))
def k176l0 : Cd :=
  .seq (.region [vP 19 (vb .lss 18 17)])
 (.seq (.cond (.s 19) (.skip)
 (.exit 0))
 (.seq (.block 1 (.draw [vD (vF 20 1 1) 0,
 vD (vL 21 1 20) 1,
 vD (vM 22 3) 0,
 vD (vM 23 4) 0,
 vD (vI 24 1 22 23) 12,
 vD (vL 25 1 24) 28,
 vD (vI 26 5 21 25) 63,
 vD (vF 27 26 2) 127,
 vD (vL 28 1 27) 255,
 vD (vM 4 28) 511]))
 (.region [vP 29 (vc .add 18 1),
 vM 18 29])))
def k176l1 : Cd :=
  .seq (.seq (.region [vM 31 5,
 vP 32 (.len (.s 31)),
 vP 33 (vc .eql 32 0),
 vM 34 33,
 vU 34 35 (.mv (.s 4)),
 vU 34 36 (.mv (.s 6)),
 vU 34 37 (vb .neq 35 36),
 vP 38 (.pick (.s 34) (.c (.bool true)) (.s 37))])
 (.cond (.s 38) (.skip)
 (.exit 2)))
 (.block 3 (.seq (.draw [vD (vF 39 1 1) 0,
 ⟨vL 40 1 39, some [], [.fr 7], 1, false⟩,
 vD (vM 41 3) 0,
 vD (vM 42 4) 0,
 vD (vI 43 1 41 42) 12,
 ⟨vL 44 1 43, some [], [.fr 7], 28, false⟩,
 vD (vI 45 5 40 44) 63,
 ⟨vP 46 (.ld true 5 (.s 45)), some [], [.fr 7], 127, false⟩,
 ⟨vP 7 (.alloc 224 [(.int .i64 0), (.bool false), (.int .i64 0), (.int .i64 0), (.int .i64 0)]), (some [.fr 7]), [], 0, false⟩,
 ⟨⟨none, none, .inl (.st 5 (.s 7) (.s 46))⟩, (some [.fr 7]), [], 511, false⟩])
 (.seq (.region [vM 47 5,
 vF 48 7 0,
 vP 49 (.ld true 2 (.s 48)),
 vP 50 (.bs 166 2 1 [(.int .i64 0), (.bool false)] [(0, (.s 49))]),
 vP 51 (.app 166 2 16 (.s 47) (.s 50)),
 vM 5 51])
 (.region [vF 52 7 2,
 vL 53 1 52,
 vM 4 53]))))
def k176 : Cd :=
  .seq (.region [vP 1 (.box 186 2 (.s 0)),
 vP 2 (.mv (.c (.slice none 0 0)))])
 (.seq (.region [vP 9 (.ld true 2 (.s 1)),
 vN 10 202 [(.s 9)],
 vM 8 10,
 vP 11 (.ex (.s 8) 0),
 vP 12 (.ex (.s 8) 1),
 vM 3 11,
 vM 4 12])
 (.seq (.seq (.region [vM 13 4,
 vP 14 (.bin .eql (.s 13) (.c (.int .i64 (-1))))])
 (.cond (.s 14) (.seq (.region [vP 2 (.mv (.c (.slice none 0 0)))])
 (.ret))
 (.skip)))
 (.seq (.seq (.region [vF 15 1 0,
 vL 16 1 15,
 vP 17 (.len (.s 16)),
 vP 18 (.mv (vi 0))])
 (.block 0 (.loop k176l0)))
 (.seq (.region [vP 5 (.mv (.c (.slice none 0 0)))])
 (.seq (.seq (.region [vM 30 4,
 vM 6 30])
 (.block 2 (.loop k176l1)))
 (.seq (.region [vM 54 5,
 vN 55 203 [(.s 54)]])
 (.seq (.region [vM 56 5,
 vM 2 56])
 (.ret))))))))
def k179l0 : Cd :=
  .seq (.region [vP 9 (vb .lss 8 7)])
 (.seq (.cond (.s 9) (.skip)
 (.exit 0))
 (.seq (.block 1 (.seq (.region [vM 10 8,
 vM 5 10])
 (.seq (.region [vM 11 1,
 vM 12 0,
 vM 13 5,
 vI 14 1 12 13,
 vL 15 1 14,
 vP 16 (vb .eql 11 15)])
 (.cond (.s 16) (.seq (.region [vM 17 5,
 vM 4 17])
 (.ret))
 (.skip)))))
 (.region [vP 18 (vc .add 8 1),
 vM 8 18])))
def k179 : Cd :=
  .seq (.region [vP 4 (.mv (vi 0))])
 (.seq (.seq (.region [vM 6 0,
 vP 7 (.len (.s 6)),
 vP 8 (.mv (vi 0))])
 (.block 0 (.loop k179l0)))
 (.seq (.region [vP 4 (.mv (.c (.int .i64 (-1))))])
 (.ret)))
def k180 : Cd :=
  .seq (.region [vP 6 (.alloc 214 [(.slice none 0 0), (.slice none 0 0), (.int .i64 0), (.int .i64 0)]),
 vP 7 (.mv (vi 0))])
 (.seq (.seq (.region [vM 14 0,
 vN 15 127 [(.s 14)],
 vM 8 15])
 (.seq (.region [vM 16 8,
 vP 17 (vc .neq 16 0)])
 (.cond (.s 17) (.seq (.region [vP 18 (.bld [(.slice none 0 0), (.slice none 0 0), (.int .i64 0), (.int .i64 0)] []),
 vM 19 8,
 ⟨none, none, .inl (.st 4 (.s 6) (.s 18))⟩,
 vM 7 19])
 (.ret))
 (.skip))))
 (.seq (.region [vM 20 0,
 vN 21 154 [(.s 20), (.f 155)],
 vP 9 (.alloc 186 [(.slice none 0 0), (.slice none 0 0)]),
 ⟨none, none, .inl (.st 2 (.s 9) (.s 21))⟩])
 (.seq (.draw [vD (vF 22 9 0) 0,
 vD (vL 23 1 22) 1,
 vD (vM 24 1) 0,
 vD (vN 25 189 [(.s 23), (.s 24)]) 7,
 vD (vF 26 9 0) 0,
 vD (vL 27 1 26) 16,
 vD (vM 28 2) 0,
 vD (vN 29 189 [(.s 27), (.s 28)]) 127,
 vD (vM 10 25) 255,
 vD (vM 11 29) 511])
 (.seq (.seq (.region [vM 30 10,
 vP 31 (.bin .eql (.s 30) (.c (.int .i64 (-1)))),
 vM 32 31,
 vU 32 33 (.mv (.s 11)),
 vU 32 34 (.bin .eql (.s 33) (.c (.int .i64 (-1)))),
 vP 35 (.pick (.s 32) (.c (.bool true)) (.s 34))])
 (.cond (.s 35) (.seq (.region [vP 36 (.bld [(.slice none 0 0), (.slice none 0 0), (.int .i64 0), (.int .i64 0)] []),
 ⟨none, none, .inl (.st 4 (.s 6) (.s 36))⟩,
 vP 7 (.mv (vi 3))])
 (.ret))
 (.skip)))
 (.seq (.region [vP 38 (.ld true 2 (.s 9)),
 vN 39 153 [(.s 38)],
 vM 37 39,
 vP 40 (.ex (.s 37) 0),
 vP 41 (.ex (.s 37) 1),
 vP 12 (.alloc 181 [(.slice none 0 0), (.slice none 0 0)]),
 ⟨none, none, .inl (.st 2 (.s 12) (.s 40))⟩,
 vM 13 41])
 (.seq (.seq (.region [vM 42 13,
 vP 43 (.not (.s 42))])
 (.cond (.s 43) (.seq (.region [vP 44 (.bld [(.slice none 0 0), (.slice none 0 0), (.int .i64 0), (.int .i64 0)] []),
 ⟨none, none, .inl (.st 4 (.s 6) (.s 44))⟩,
 vP 7 (.mv (vi 25))])
 (.ret))
 (.skip)))
 (.seq (.region [vP 45 (.ld true 2 (.s 12)),
 vM 46 10,
 vM 47 11,
 vP 48 (.bld [(.slice none 0 0), (.slice none 0 0), (.int .i64 0), (.int .i64 0)] [(0, 2, (.s 45)), (2, 1, (.s 46)), (3, 1, (.s 47))]),
 ⟨none, none, .inl (.st 4 (.s 6) (.s 48))⟩,
 vP 7 (.mv (vi 0))])
 (.ret))))))))
def k181l0 : Cd :=
  .block 1 (.seq (.region [vM 21 2,
 vM 22 1,
 vP 23 (vb .sub 21 22),
 vM 12 23])
 (.seq (.seq (.region [vM 24 12,
 vP 25 (vc .leq 24 12)])
 (.cond (.s 25) (.seq (.region [vM 26 0,
 vM 27 1,
 vM 28 2,
 vM 29 4,
 vN 30 205 [(.s 26), (.s 27), (.s 28), (.s 29)]])
 (.ret))
 (.skip)))
 (.seq (.seq (.region [vM 31 3,
 vP 32 (vc .eql 31 0)])
 (.cond (.s 32) (.seq (.region [vM 33 0,
 vM 34 1,
 vM 35 2,
 vM 36 4,
 vN 37 206 [(.s 33), (.s 34), (.s 35), (.s 36)]])
 (.ret))
 (.skip)))
 (.seq (.seq (.region [vM 38 10,
 vP 39 (.not (.s 38))])
 (.cond (.s 39) (.seq (.region [vM 40 0,
 vM 41 1,
 vM 42 2,
 vM 43 4,
 vN 44 207 [(.s 40), (.s 41), (.s 42), (.s 43)]])
 (.region [vM 45 3,
 vP 46 (vc .sub 45 1),
 vM 3 46]))
 (.skip)))
 (.seq (.region [vM 48 0,
 vM 49 1,
 vM 50 2,
 vM 51 4,
 vN 52 208 [(.s 48), (.s 49), (.s 50), (.s 51)],
 vM 47 52,
 vP 53 (.ex (.s 47) 0),
 vP 54 (.ex (.s 47) 1),
 vM 13 53,
 vM 14 54])
 (.seq (.seq (.region [vM 55 14,
 vP 56 (vc .eql 55 2)])
 (.cond (.s 56) (.seq (.region [vM 57 0,
 vM 58 1,
 vM 59 2,
 vM 60 4,
 vN 61 209 [(.s 57), (.s 58), (.s 59), (.s 60)]])
 (.seq (.region [vM 62 2,
 vP 63 (vc .sub 62 1),
 vM 64 13,
 vM 65 1,
 vP 66 (vb .sub 64 65),
 vP 67 (vb .sub 63 66),
 vM 13 67])
 (.region [vP 14 (.mv (vi 1))])))
 (.skip)))
 (.seq (.seq (.region [vM 68 10,
 vM 69 68,
 vT 69 70 (.mv (.s 11)),
 vP 71 (.pick (.s 69) (.s 70) (.c (.bool false))),
 vM 72 71,
 vT 72 73 (.mv (.s 14)),
 vT 72 74 (vc .eql 73 1),
 vP 75 (.pick (.s 72) (.s 74) (.c (.bool false)))])
 (.cond (.s 75) (.seq (.region [vM 76 0,
 vM 77 1,
 vM 78 2,
 vM 79 4,
 vN 80 210 [(.s 76), (.s 77), (.s 78), (.s 79)]])
 (.cond (.s 80) (.ret)
 (.skip)))
 (.skip)))
 (.seq (.seq (.draw [vD (vM 81 1) 0,
 vD (vP 82 (vc .gtr 81 0)) 1,
 vD (vM 83 82) 3,
 vD (vT 83 84 (.mv (.s 4))) 7,
 vD (vT 83 85 (.mv (.s 0))) 7,
 vD (vT 83 86 (.mv (.s 1))) 7,
 vD (vT 83 87 (vc .sub 86 1)) 39,
 vD (vT 83 88 (.ias 2 (.s 85) (.s 87))) 119,
 vD (vT 83 89 (.ld true 2 (.s 88))) 247,
 vD (vT 83 90 (.mv (.s 0))) 7,
 vD (vT 83 91 (.mv (.s 13))) 7,
 vD (vT 83 92 (.ias 2 (.s 90) (.s 91))) 1543,
 vD (vT 83 93 (.ld true 2 (.s 92))) 3591,
 ⟨⟨some (83, true), some 94, .inr (.val true (.s 84) [(.s 89), (.s 93)])⟩, some [], [], 8191, false⟩,
 vD (vT 83 95 (vc .lss 94 0)) 16383,
 vD (vT 83 96 (.not (.s 95))) 32767,
 vD (vP 97 (.pick (.s 83) (.s 96) (.c (.bool false)))) 65535])
 (.cond (.s 97) (.seq (.region [vM 98 0,
 vM 99 1,
 vM 100 2,
 vM 101 13,
 vM 102 4,
 vN 103 211 [(.s 98), (.s 99), (.s 100), (.s 101), (.s 102)],
 vM 15 103])
 (.seq (.region [vM 104 15,
 vM 1 104])
 (.exit 1)))
 (.skip)))
 (.seq (.region [vM 106 0,
 vM 107 1,
 vM 108 2,
 vM 109 13,
 vM 110 4,
 vN 111 212 [(.s 106), (.s 107), (.s 108), (.s 109), (.s 110)],
 vM 105 111,
 vP 112 (.ex (.s 105) 0),
 vP 113 (.ex (.s 105) 1),
 vM 16 112,
 vM 17 113])
 (.seq (.region [vM 114 17,
 vM 11 114])
 (.seq (.region [vM 115 16,
 vM 116 1,
 vP 117 (vb .sub 115 116),
 vM 118 2,
 vM 119 16,
 vP 120 (vb .sub 118 119),
 vM 18 117,
 vM 19 120])
 (.seq (.region [vM 121 12,
 vP 122 (vc .quo 121 8),
 vM 20 122])
 (.seq (.region [vM 123 18,
 vM 124 19,
 vP 125 (vb .lss 123 124)])
 (.cond (.s 125) (.seq (.region [vM 126 18,
 vM 127 20,
 vP 128 (vb .geq 126 127),
 vM 10 128])
 (.seq (.region [vM 129 0,
 vM 130 1,
 vM 131 16,
 vM 132 3,
 vM 133 4,
 vN 134 181 [(.s 129), (.s 130), (.s 131), (.s 132), (.s 133)]])
 (.region [vM 135 16,
 vP 136 (vc .add 135 1),
 vM 1 136])))
 (.seq (.region [vM 137 19,
 vM 138 20,
 vP 139 (vb .geq 137 138),
 vM 10 139])
 (.seq (.region [vM 140 0,
 vM 141 16,
 vP 142 (vc .add 141 1),
 vM 143 2,
 vM 144 3,
 vM 145 4,
 vN 146 181 [(.s 140), (.s 142), (.s 143), (.s 144), (.s 145)]])
 (.region [vM 147 16,
 vM 2 147])))))))))))))))))
def k181 : Cd :=
  .seq (.region [vP 10 (.mv (.c (.bool true)))])
 (.seq (.region [vP 11 (.mv (.c (.bool true)))])
 (.block 0 (.loop k181l0)))
def k182 : Cd :=
  .seq (.region [vP 2 (.mv (vi 0))])
 (.seq (.cond (.c (.bool false)) (.seq (.region [vM 3 0,
 vP 4 (.cvi .u32 (.s 3)),
 vN 5 213 [(.s 4)],
 vM 2 5])
 (.ret))
 (.skip))
 (.seq (.region [vM 6 0,
 vN 7 214 [(.s 6)],
 vM 2 7])
 (.ret)))
def k183 : Cd :=
  .seq (.region [vP 2 (.mv (.c (.bool false)))])
 (.seq (.region [vM 3 0,
 vM 4 0,
 vP 5 (vb .neq 3 4),
 vM 2 5])
 (.ret))
def k185 : Cd :=
  .seq (.region [vP 1 (.box 186 2 (.s 0)),
 vP 2 (.mv (.c (.bool false)))])
 (.seq (.region [vP 6 (.ld true 2 (.s 1)),
 vN 7 202 [(.s 6)],
 vM 5 7,
 vP 8 (.ex (.s 5) 0),
 vP 9 (.ex (.s 5) 1),
 vM 3 8,
 vM 4 9])
 (.seq (.region [vM 10 4,
 vP 11 (.bin .neq (.s 10) (.c (.int .i64 (-1)))),
 vM 2 11])
 (.ret)))
def k186l0 : Cd :=
  .seq (.region [vP 11 (vb .lss 10 9)])
 (.seq (.cond (.s 11) (.skip)
 (.exit 0))
 (.seq (.block 1 (.seq (.region [vM 12 10,
 vM 4 12])
 (.seq (.region [vM 13 3,
 vM 14 4,
 vP 15 (.bst 3 1 1 [(.int .i64 0)] [(0, (vi 1000000000))]),
 vM 16 0,
 vP 17 (.len (.s 16)),
 vN 18 215 [(.s 15), (.s 17)],
 vI 19 1 13 14,
 ⟨none, none, .inl (.st 1 (.s 19) (.s 18))⟩])
 (.region [vM 20 3,
 vM 21 4,
 vI 22 1 20 21,
 vL 23 1 22,
 vM 24 4,
 vI 25 1 23 24,
 ⟨none, none, .inl (.st 1 (.s 25) (vi 0))⟩]))))
 (.region [vP 26 (vc .add 10 1),
 vM 10 26])))
def k186 : Cd :=
  .seq (.region [vP 2 (.alloc 181 [(.slice none 0 0), (.slice none 0 0)])])
 (.seq (.region [vM 5 0,
 vP 6 (.len (.s 5)),
 vP 7 (.mks 26 1 24 [(.slice none 0 0)] (.s 6) (.s 6)),
 vM 3 7])
 (.seq (.seq (.region [vM 8 0,
 vP 9 (.len (.s 8)),
 vP 10 (.mv (vi 0))])
 (.block 0 (.loop k186l0)))
 (.seq (.region [vM 27 0,
 vM 28 3,
 vP 29 (.bld [(.slice none 0 0), (.slice none 0 0)] [(0, 1, (.s 27)), (1, 1, (.s 28))]),
 vP 30 (.bld [(.slice none 0 0), (.slice none 0 0)] [(0, 2, (.s 29))]),
 ⟨none, none, .inl (.st 2 (.s 2) (.s 30))⟩])
 (.ret))))
def k187 : Cd :=
  .seq (.region [vP 4 (.box 181 2 (.s 0))])
 (.draw [vD (vF 8 4 0) 0,
 vD (vF 9 8 1) 1,
 vD (vL 10 1 9) 3,
 vD (vM 11 1) 0,
 vD (vI 12 1 10 11) 15,
 vD (vL 13 1 12) 31,
 vD (vM 14 2) 0,
 vD (vF 15 4 0) 0,
 vD (vF 16 15 1) 128,
 vD (vL 17 1 16) 384,
 vD (vM 18 1) 0,
 vD (vI 19 1 17 18) 1920,
 vD (vL 20 1 19) 3968,
 vD (vM 21 2) 0,
 vD (vI 22 1 20 21) 16256,
 vD (vL 23 1 22) 32640,
 vD (vM 24 3) 0,
 vD (vP 25 (.mm false (.s 23) (.s 24))) 130944,
 vD (vI 26 1 13 14) 262143,
 ⟨⟨none, none, .inl (.st 1 (.s 26) (.s 25))⟩, (some [.at 13]), [], 524287, false⟩])
def k188l0 : Cd :=
  .seq (.region [vP 32 (vb .lss 31 30)])
 (.seq (.cond (.s 32) (.skip)
 (.exit 2))
 (.seq (.block 3 (.seq (.region [vM 33 31,
 vM 7 33])
 (.seq (.region [vM 34 4,
 vM 35 7,
 vI 36 1 34 35,
 vL 37 1 36,
 vP 38 (vc .neq 37 1000000000)])
 (.cond (.s 38) (.draw [vD (vM 39 6) 0,
 vD (vM 40 7) 0,
 vD (vM 41 6) 0,
 vD (vM 42 7) 0,
 vD (vI 43 1 41 42) 12,
 vD (vL 44 1 43) 28,
 vD (vM 45 6) 0,
 vD (vM 46 1) 0,
 vD (vI 47 1 45 46) 192,
 vD (vL 48 1 47) 448,
 vD (vM 49 4) 0,
 vD (vM 50 7) 0,
 vD (vI 51 1 49 50) 3072,
 vD (vL 52 1 51) 7168,
 vD (vP 53 (vb .add 48 52)) 16320,
 vD (vP 54 (.mm false (.s 44) (.s 53))) 32764,
 vD (vI 55 1 39 40) 65535,
 ⟨⟨none, none, .inl (.st 1 (.s 55) (.s 54))⟩, (some [.at 6]), [], 131071, false⟩])
 (.skip)))))
 (.region [vP 56 (vc .add 31 1),
 vM 31 56])))
def k188l1 : Cd :=
  .seq (.region [vP 19 (vb .lss 18 17)])
 (.seq (.cond (.s 19) (.skip)
 (.exit 0))
 (.seq (.block 1 (.seq (.region [vI 20 1 16 18,
 vL 21 1 20,
 vM 6 21])
 (.seq (.seq (.region [vM 22 6,
 vM 23 1,
 vI 24 1 22 23,
 vL 25 1 24,
 vP 26 (vc .eql 25 1000000000)])
 (.cond (.s 26) (.exit 1)
 (.skip)))
 (.seq (.region [vF 27 2 0,
 vF 28 27 0,
 vL 29 1 28,
 vP 30 (.len (.s 29)),
 vP 31 (.mv (vi 0))])
 (.block 2 (.loop k188l0))))))
 (.region [vP 57 (vc .add 18 1),
 vM 18 57])))
def k188 : Cd :=
  .seq (.region [vP 2 (.box 181 2 (.s 0))])
 (.seq (.region [vF 8 2 0,
 vF 9 8 1,
 vL 10 1 9,
 vM 11 1,
 vI 12 1 10 11,
 vL 13 1 12,
 vM 4 13])
 (.seq (.region [vF 14 2 0,
 vF 15 14 1,
 vL 16 1 15,
 vP 17 (.len (.s 16)),
 vP 18 (.mv (vi 0))])
 (.block 0 (.loop k188l1))))
def k189 : Cd :=
  .seq (.region [vP 4 (.mv (vi 0))])
 (.seq (.region [vM 8 0,
 vM 9 1,
 vN 10 216 [(.s 8), (.s 9)],
 vM 7 10,
 vP 11 (.ex (.s 7) 0),
 vP 12 (.ex (.s 7) 1),
 vM 5 11,
 vM 6 12])
 (.seq (.seq (.region [vM 13 6,
 vP 14 (.not (.s 13))])
 (.cond (.s 14) (.seq (.region [vP 4 (.mv (.c (.int .i64 (-1))))])
 (.ret))
 (.skip)))
 (.seq (.region [vM 15 5,
 vM 4 15])
 (.ret))))
end Go.Proofs.YtlfknfknlcgfcaaGreatDoor
