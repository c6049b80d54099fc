/- The small code of the functions of this program, as its own reader reads them: part A. -/
import Derived.Test.YtmncdmpeeibgmaaGreatDoorEmR
namespace Go.Proofs.YtmncdmpeeibgmaaGreatDoor
open Go Go.Em
set_option maxRecDepth 100000
@[simp] abbrev vM (d x : Nat) : G := ⟨none, some d, .inl (.mv (.s x))⟩
@[simp] abbrev vL (d n x : Nat) : G := ⟨none, some d, .inl (.ld false n (.s x))⟩
@[simp] abbrev vF (d x o : Nat) : G := ⟨none, some d, .inl (.fa (.s x) o)⟩
@[simp] abbrev vI (d n x i : Nat) : G := ⟨none, some d, .inl (.ias n (.s x) (.s i))⟩
@[simp] abbrev vi (n : Int) : X := .c (.int .i64 n)
@[simp] abbrev vb (o : BinOp) (a b : Nat) : M := .bin o (.s a) (.s b)
@[simp] abbrev vc (o : BinOp) (a : Nat) (n : Int) : M := .bin o (.s a) (.c (.int .i64 n))
@[simp] abbrev vP (d : Nat) (m : M) : G := ⟨none, some d, .inl m⟩
@[simp] abbrev vT (g d : Nat) (m : M) : G := ⟨some (g, true), some d, .inl m⟩
@[simp] abbrev vU (g d : Nat) (m : M) : G := ⟨some (g, false), some d, .inl m⟩
@[simp] abbrev vN (d : Nat) (f : FuncId) (l : List X) : G := ⟨none, some d, .inr (.fn f l)⟩
@[simp] abbrev vD (g : G) (n : Nat) : DG := ⟨g, some [], [], n, false⟩
def k3l0 : Cd :=
  .seq (.region [vP 9 (vb .lss 8 7)])
 (.seq (.cond (.s 9) (.skip)
 (.exit 0))
 (.seq (.block 1 (.seq (.region [vI 10 2 6 8,
 vP 11 (.ld true 2 (.s 10)),
 vP 4 (.alloc 28 [(.int .i64 0), (.slice none 0 0)]),
 ⟨none, none, .inl (.st 2 (.s 4) (.s 11))⟩])
 (.seq (.draw [vD (vP 12 (.ld true 2 (.s 4))) 0,
 vD (vN 13 5 [(.s 12)]) 1,
 vD (vP 14 (.ld true 2 (.s 4))) 0,
 vD (vN 15 6 [(.s 14)]) 7,
 vD (vP 16 (vb .neq 13 15)) 15])
 (.cond (.s 16) (.seq (.region [vP 2 (.mv (.c (.bool false)))])
 (.ret))
 (.skip)))))
 (.region [vP 17 (vc .add 8 1),
 vM 8 17])))
def k3 : Cd :=
  .seq (.region [vP 1 (.box 25 2 (.s 0)),
 vP 2 (.mv (.c (.bool false)))])
 (.seq (.seq (.region [vF 5 1 1,
 vL 6 1 5,
 vP 7 (.len (.s 6)),
 vP 8 (.mv (vi 0))])
 (.block 0 (.loop k3l0)))
 (.seq (.draw [vD (vP 18 (.ld true 2 (.s 1))) 0,
 vD (vN 19 7 [(.s 18)]) 1,
 vD (vP 20 (.ld true 2 (.s 1))) 0,
 vD (vN 21 8 [(.s 20)]) 7,
 vD (vP 22 (vb .eql 19 21)) 15,
 vD (vM 23 22) 31,
 vD (vT 23 24 (.ld true 2 (.s 1))) 63,
 ⟨⟨some (23, true), some 25, .inr (.fn 10 [(.s 24)])⟩, some [], [], 127, false⟩,
 vD (vT 23 26 (.ld true 2 (.s 1))) 63,
 ⟨⟨some (23, true), some 27, .inr (.fn 11 [(.s 26)])⟩, some [], [], 511, false⟩,
 ⟨⟨some (23, true), some 28, .inr (.fn 9 [(.s 25), (.s 27)])⟩, some [], [], 1023, false⟩,
 vD (vP 29 (.pick (.s 23) (.s 28) (.c (.bool false)))) 2047,
 vD (vM 30 29) 4095,
 ⟨⟨some (30, true), some 31, .inr (.fn 12 [])⟩, some [], [], 8191, false⟩,
 vD (vP 32 (.pick (.s 30) (.s 31) (.c (.bool false)))) 16383,
 vD (vM 2 32) 32767])
 (.ret)))
def k5l0 : Cd :=
  .seq (.region [vP 28 (vb .lss 27 26)])
 (.seq (.cond (.s 28) (.skip)
 (.exit 2))
 (.seq (.block 3 (.seq (.region [vI 29 5 25 27,
 vP 30 (.ld true 5 (.s 29)),
 vP 6 (.alloc 45 [(.int .i64 0), (.int .i64 0), (.int .i64 0), (.int .i64 0), (.int .i64 0)]),
 ⟨none, none, .inl (.st 5 (.s 6) (.s 30))⟩])
 (.seq (.region [vF 31 6 4,
 vL 32 1 31,
 vF 33 1 0,
 vL 34 1 33,
 vP 35 (vb .neq 32 34),
 vM 36 35,
 vU 36 37 (.ld true 5 (.s 6)),
 ⟨some (36, false), some 38, .inr (.fn 20 [(.s 37)])⟩,
 vU 36 39 (vc .neq 38 0),
 vP 40 (.pick (.s 36) (.c (.bool true)) (.s 39))])
 (.cond (.s 40) (.seq (.region [vP 2 (.mv (vi 50))])
 (.ret))
 (.skip)))))
 (.region [vP 41 (vc .add 27 1),
 vM 27 41])))
def k5l1 : Cd :=
  .seq (.region [vP 22 (vb .lss 21 20)])
 (.seq (.cond (.s 22) (.skip)
 (.exit 0))
 (.seq (.block 1 (.seq (.region [vI 23 1 19 21,
 vL 24 1 23,
 vM 4 24])
 (.seq (.region [vM 25 4,
 vP 26 (.len (.s 25)),
 vP 27 (.mv (vi 0))])
 (.block 2 (.loop k5l0)))))
 (.region [vP 42 (vc .add 21 1),
 vM 21 42])))
def k5 : Cd :=
  .seq (.region [vP 1 (.box 28 2 (.s 0)),
 vP 2 (.mv (vi 0))])
 (.seq (.seq (.region [vF 7 1 0,
 vL 8 1 7,
 vN 9 19 [(.s 8), (vi 1), (vi 99999)],
 vP 10 (.not (.s 9)),
 vM 11 10,
 vU 11 12 (.fa (.s 1) 1),
 vU 11 13 (.ld false 1 (.s 12)),
 vU 11 14 (.len (.s 13)),
 ⟨some (11, false), some 15, .inr (.fn 19 [(.s 14), (vi 1), (vi 60)])⟩,
 vU 11 16 (.not (.s 15)),
 vP 17 (.pick (.s 11) (.c (.bool true)) (.s 16))])
 (.cond (.s 17) (.seq (.region [vP 2 (.mv (vi 50))])
 (.ret))
 (.skip)))
 (.seq (.seq (.region [vF 18 1 1,
 vL 19 1 18,
 vP 20 (.len (.s 19)),
 vP 21 (.mv (vi 0))])
 (.block 0 (.loop k5l1)))
 (.seq (.region [vP 2 (.mv (vi 0))])
 (.ret))))
def k6l0 : Cd :=
  .seq (.region [vP 37 (vb .lss 36 35)])
 (.seq (.cond (.s 37) (.skip)
 (.exit 2))
 (.seq (.block 3 (.seq (.region [vI 38 5 34 36,
 vP 39 (.ld true 5 (.s 38)),
 vP 6 (.alloc 45 [(.int .i64 0), (.int .i64 0), (.int .i64 0), (.int .i64 0), (.int .i64 0)]),
 ⟨none, none, .inl (.st 5 (.s 6) (.s 39))⟩])
 (.seq (.region [vP 40 (.ld true 5 (.s 6)),
 vN 41 21 [(.s 40)],
 vP 42 (vc .neq 41 0),
 vM 43 42,
 vU 43 44 (.fa (.s 6) 4),
 vU 43 45 (.ld false 1 (.s 44)),
 vU 43 46 (.fa (.s 1) 0),
 vU 43 47 (.ld false 1 (.s 46)),
 vU 43 48 (vb .neq 45 47),
 vP 49 (.pick (.s 43) (.c (.bool true)) (.s 48))])
 (.cond (.s 49) (.seq (.region [vP 2 (.mv (vi 50))])
 (.ret))
 (.skip)))))
 (.region [vP 50 (vc .add 36 1),
 vM 36 50])))
def k6l1 : Cd :=
  .seq (.region [vP 31 (vb .lss 30 29)])
 (.seq (.cond (.s 31) (.skip)
 (.exit 0))
 (.seq (.block 1 (.seq (.region [vI 32 1 28 30,
 vL 33 1 32,
 vM 4 33])
 (.seq (.region [vM 34 4,
 vP 35 (.len (.s 34)),
 vP 36 (.mv (vi 0))])
 (.block 2 (.loop k6l0)))))
 (.region [vP 51 (vc .add 30 1),
 vM 30 51])))
def k6 : Cd :=
  .seq (.region [vP 1 (.box 28 2 (.s 0)),
 vP 2 (.mv (vi 0))])
 (.seq (.seq (.region [vF 7 1 0,
 vL 8 1 7,
 vP 9 (vc .lss 8 1),
 vM 10 9,
 vU 10 11 (.fa (.s 1) 0),
 vU 10 12 (.ld false 1 (.s 11)),
 vU 10 13 (vc .gtr 12 99999),
 vP 14 (.pick (.s 10) (.c (.bool true)) (.s 13)),
 vM 15 14,
 vU 15 16 (.fa (.s 1) 1),
 vU 15 17 (.ld false 1 (.s 16)),
 vU 15 18 (.len (.s 17)),
 vU 15 19 (vc .lss 18 1),
 vP 20 (.pick (.s 15) (.c (.bool true)) (.s 19)),
 vM 21 20,
 vU 21 22 (.fa (.s 1) 1),
 vU 21 23 (.ld false 1 (.s 22)),
 vU 21 24 (.len (.s 23)),
 vU 21 25 (vc .gtr 24 60),
 vP 26 (.pick (.s 21) (.c (.bool true)) (.s 25))])
 (.cond (.s 26) (.seq (.region [vP 2 (.mv (vi 50))])
 (.ret))
 (.skip)))
 (.seq (.seq (.region [vF 27 1 1,
 vL 28 1 27,
 vP 29 (.len (.s 28)),
 vP 30 (.mv (vi 0))])
 (.block 0 (.loop k6l1)))
 (.seq (.region [vP 2 (.mv (vi 0))])
 (.ret))))
def k7l0 : Cd :=
  .seq (.region [vP 25 (vb .lss 24 23)])
 (.seq (.cond (.s 25) (.skip)
 (.exit 0))
 (.seq (.block 1 (.seq (.region [vI 26 2 22 24,
 vP 27 (.ld true 2 (.s 26)),
 vP 5 (.alloc 28 [(.int .i64 0), (.slice none 0 0)]),
 ⟨none, none, .inl (.st 2 (.s 5) (.s 27))⟩])
 (.seq (.region [vP 28 (.ld true 2 (.s 5)),
 vN 29 5 [(.s 28)],
 vM 6 29])
 (.seq (.region [vM 30 6,
 vP 31 (vc .neq 30 0)])
 (.cond (.s 31) (.seq (.region [vM 32 6,
 vM 2 32])
 (.ret))
 (.skip))))))
 (.region [vP 33 (vc .add 24 1),
 vM 24 33])))
def k7l1 : Cd :=
  .seq (.region [vP 41 (vb .lss 40 39)])
 (.seq (.cond (.s 41) (.skip)
 (.exit 2))
 (.seq (.block 3 (.seq (.region [vI 42 2 38 40,
 vP 43 (.ld true 2 (.s 42)),
 vP 10 (.alloc 28 [(.int .i64 0), (.slice none 0 0)]),
 ⟨none, none, .inl (.st 2 (.s 10) (.s 43))⟩])
 (.seq (.region [vM 44 7,
 vF 45 10 1,
 vL 46 1 45,
 vP 47 (.len (.s 46)),
 vP 48 (vb .mul 44 47),
 vM 7 48])
 (.region [vM 49 8,
 vP 50 (.ld true 2 (.s 10)),
 vN 51 23 [(.s 50)],
 vP 52 (vb .add 49 51),
 vM 8 52]))))
 (.region [vP 53 (vc .add 40 1),
 vM 40 53])))
def k7 : Cd :=
  .seq (.region [vP 1 (.box 25 2 (.s 0)),
 vP 2 (.mv (vi 0))])
 (.seq (.seq (.region [vF 11 1 0,
 vL 12 1 11,
 vN 13 22 [(.s 12)],
 vM 3 13])
 (.seq (.region [vM 14 3,
 vP 15 (vc .neq 14 0)])
 (.cond (.s 15) (.seq (.region [vM 16 3,
 vM 2 16])
 (.ret))
 (.skip))))
 (.seq (.seq (.region [vF 17 1 1,
 vL 18 1 17,
 vP 19 (.len (.s 18)),
 vP 20 (vc .gtr 19 6)])
 (.cond (.s 20) (.seq (.region [vP 2 (.mv (vi 2))])
 (.ret))
 (.skip)))
 (.seq (.seq (.region [vF 21 1 1,
 vL 22 1 21,
 vP 23 (.len (.s 22)),
 vP 24 (.mv (vi 0))])
 (.block 0 (.loop k7l0)))
 (.seq (.draw [vD (vF 34 1 0) 0,
 vD (vL 35 1 34) 1,
 vD (vP 36 (.len (.s 35))) 3,
 vD (vP 7 (.mv (vi 1))) 0,
 vD (vM 8 36) 15])
 (.seq (.seq (.region [vF 37 1 1,
 vL 38 1 37,
 vP 39 (.len (.s 38)),
 vP 40 (.mv (vi 0))])
 (.block 2 (.loop k7l1)))
 (.seq (.seq (.region [vM 54 7,
 vP 55 (vc .gtr 54 3000),
 vM 56 55,
 vU 56 57 (.mv (.s 8)),
 vU 56 58 (vc .gtr 57 400),
 vP 59 (.pick (.s 56) (.c (.bool true)) (.s 58)),
 vM 60 59,
 vU 60 61 (.ld true 2 (.s 1)),
 ⟨some (60, false), some 62, .inr (.fn 24 [(.s 61)])⟩,
 vU 60 63 (.len (.s 62)),
 vU 60 64 (vc .gtr 63 64),
 vP 65 (.pick (.s 60) (.c (.bool true)) (.s 64))])
 (.cond (.s 65) (.seq (.region [vP 2 (.mv (vi 2))])
 (.ret))
 (.skip)))
 (.seq (.region [vP 2 (.mv (vi 0))])
 (.ret))))))))
def k8l0 : Cd :=
  .seq (.region [vP 38 (vb .lss 37 36)])
 (.seq (.cond (.s 38) (.skip)
 (.exit 2))
 (.seq (.block 3 (.seq (.region [vI 39 1 35 37,
 vL 40 1 39,
 vM 10 40])
 (.region [vM 41 8,
 vM 42 10,
 vP 43 (.len (.s 42)),
 vP 44 (.mm true (.s 41) (.s 43)),
 vM 8 44])))
 (.region [vP 45 (vc .add 37 1),
 vM 37 45])))
def k8l1 : Cd :=
  .seq (.region [vP 28 (vb .lss 27 26)])
 (.seq (.cond (.s 28) (.skip)
 (.exit 0))
 (.seq (.block 1 (.seq (.region [vI 29 2 25 27,
 vP 30 (.ld true 2 (.s 29)),
 vP 7 (.alloc 28 [(.int .i64 0), (.slice none 0 0)]),
 ⟨none, none, .inl (.st 2 (.s 7) (.s 30))⟩])
 (.seq (.seq (.region [vP 31 (.ld true 2 (.s 7)),
 vN 32 6 [(.s 31)],
 vP 33 (vc .neq 32 0)])
 (.cond (.s 33) (.seq (.region [vP 2 (.mv (vi 50))])
 (.ret))
 (.skip)))
 (.seq (.region [vP 8 (.mv (vi 0))])
 (.seq (.seq (.region [vF 34 7 1,
 vL 35 1 34,
 vP 36 (.len (.s 35)),
 vP 37 (.mv (vi 0))])
 (.block 2 (.loop k8l0)))
 (.seq (.region [vM 46 4,
 vF 47 7 1,
 vL 48 1 47,
 vP 49 (.len (.s 48)),
 vP 50 (vb .mul 46 49),
 vP 51 (.mm false (.s 50) (vi 3001)),
 vM 4 51])
 (.region [vM 52 5,
 vM 53 8,
 vP 54 (vb .add 52 53),
 vP 55 (.mm false (.s 54) (vi 401)),
 vM 5 55])))))))
 (.region [vP 56 (vc .add 27 1),
 vM 27 56])))
def k8 : Cd :=
  .seq (.region [vP 1 (.box 25 2 (.s 0)),
 vP 2 (.mv (vi 0))])
 (.seq (.region [vF 11 1 0,
 vL 12 1 11,
 vN 13 25 [(.s 12)],
 vM 3 13])
 (.seq (.seq (.region [vM 14 3,
 vP 15 (vc .neq 14 0)])
 (.cond (.s 15) (.seq (.region [vM 16 3,
 vM 2 16])
 (.ret))
 (.skip)))
 (.seq (.seq (.region [vF 17 1 1,
 vL 18 1 17,
 vP 19 (.len (.s 18)),
 vP 20 (vc .gtr 19 6)])
 (.cond (.s 20) (.seq (.region [vP 2 (.mv (vi 2))])
 (.ret))
 (.skip)))
 (.seq (.region [vP 4 (.mv (vi 1))])
 (.seq (.region [vF 21 1 0,
 vL 22 1 21,
 vP 23 (.len (.s 22)),
 vM 5 23])
 (.seq (.seq (.region [vF 24 1 1,
 vL 25 1 24,
 vP 26 (.len (.s 25)),
 vP 27 (.mv (vi 0))])
 (.block 0 (.loop k8l1)))
 (.seq (.seq (.region [vM 57 4,
 vP 58 (vc .gtr 57 3000),
 vM 59 58,
 vU 59 60 (.mv (.s 5)),
 vU 59 61 (vc .gtr 60 400),
 vP 62 (.pick (.s 59) (.c (.bool true)) (.s 61)),
 vM 63 62,
 vU 63 64 (.ld true 2 (.s 1)),
 ⟨some (63, false), some 65, .inr (.fn 26 [(.s 64)])⟩,
 vU 63 66 (.len (.s 65)),
 vU 63 67 (vc .gtr 66 64),
 vP 68 (.pick (.s 63) (.c (.bool true)) (.s 67))])
 (.cond (.s 68) (.seq (.region [vP 2 (.mv (vi 2))])
 (.ret))
 (.skip)))
 (.seq (.region [vP 2 (.mv (vi 0))])
 (.ret)))))))))
def k9l0 : Cd :=
  .seq (.region [vP 14 (vb .lss 13 12)])
 (.seq (.cond (.s 14) (.skip)
 (.exit 0))
 (.seq (.block 1 (.seq (.region [vM 15 13,
 vM 5 15])
 (.seq (.draw [vD (vM 16 0) 0,
 vD (vM 17 5) 0,
 vD (vI 18 1 16 17) 3,
 vD (vL 19 1 18) 7,
 vD (vM 20 1) 0,
 vD (vM 21 5) 0,
 vD (vI 22 1 20 21) 48,
 vD (vL 23 1 22) 112,
 vD (vP 24 (vb .neq 19 23)) 255])
 (.cond (.s 24) (.seq (.region [vP 4 (.mv (.c (.bool false)))])
 (.ret))
 (.skip)))))
 (.region [vP 25 (vc .add 13 1),
 vM 13 25])))
def k9 : Cd :=
  .seq (.region [vP 4 (.mv (.c (.bool false)))])
 (.seq (.seq (.region [vM 6 0,
 vP 7 (.len (.s 6)),
 vM 8 1,
 vP 9 (.len (.s 8)),
 vP 10 (vb .neq 7 9)])
 (.cond (.s 10) (.seq (.region [vP 4 (.mv (.c (.bool false)))])
 (.ret))
 (.skip)))
 (.seq (.seq (.region [vM 11 0,
 vP 12 (.len (.s 11)),
 vP 13 (.mv (vi 0))])
 (.block 0 (.loop k9l0)))
 (.seq (.region [vP 4 (.mv (.c (.bool true)))])
 (.ret))))
def k10l0 : Cd :=
  .seq (.region [vP 16 (vb .lss 15 14)])
 (.seq (.cond (.s 16) (.skip)
 (.exit 0))
 (.seq (.block 1 (.seq (.region [vI 17 2 13 15,
 vP 18 (.ld true 2 (.s 17)),
 vP 5 (.alloc 28 [(.int .i64 0), (.slice none 0 0)]),
 ⟨none, none, .inl (.st 2 (.s 5) (.s 18))⟩])
 (.region [vM 19 3,
 vF 20 5 0,
 vL 21 1 20,
 vP 22 (.bs 3 1 1 [(.int .i64 0)] [(0, (.s 21))]),
 vP 23 (.app 3 1 8 (.s 19) (.s 22)),
 vM 3 23])))
 (.region [vP 24 (vc .add 15 1),
 vM 15 24])))
def k10 : Cd :=
  .seq (.region [vP 1 (.box 25 2 (.s 0)),
 vP 2 (.mv (.c (.slice none 0 0)))])
 (.seq (.seq (.region [vP 6 (.ld true 2 (.s 1)),
 vN 7 7 [(.s 6)],
 vP 8 (vc .neq 7 0)])
 (.cond (.s 8) (.seq (.region [vP 2 (.mv (.c (.slice none 0 0)))])
 (.ret))
 (.skip)))
 (.seq (.region [vF 9 1 0,
 vL 10 1 9,
 vN 11 27 [(.s 10)],
 vM 3 11])
 (.seq (.seq (.region [vF 12 1 1,
 vL 13 1 12,
 vP 14 (.len (.s 13)),
 vP 15 (.mv (vi 0))])
 (.block 0 (.loop k10l0)))
 (.seq (.region [vM 25 3,
 vN 26 28 [(.s 25)]])
 (.seq (.region [vM 27 3,
 vN 28 29 [(.s 27)],
 vM 2 28])
 (.ret))))))
def k11l0 : Cd :=
  .seq (.region [vP 16 (vb .lss 15 14)])
 (.seq (.cond (.s 16) (.skip)
 (.exit 0))
 (.seq (.block 1 (.seq (.region [vI 17 2 13 15,
 vP 18 (.ld true 2 (.s 17)),
 vP 5 (.alloc 28 [(.int .i64 0), (.slice none 0 0)]),
 ⟨none, none, .inl (.st 2 (.s 5) (.s 18))⟩])
 (.region [vM 19 3,
 vF 20 5 0,
 vL 21 1 20,
 vN 22 31 [(.s 19), (.s 21)],
 vM 3 22])))
 (.region [vP 23 (vc .add 15 1),
 vM 15 23])))
def k11 : Cd :=
  .seq (.region [vP 1 (.box 25 2 (.s 0)),
 vP 2 (.mv (.c (.slice none 0 0)))])
 (.seq (.seq (.region [vP 6 (.ld true 2 (.s 1)),
 vN 7 8 [(.s 6)],
 vP 8 (vc .neq 7 0)])
 (.cond (.s 8) (.seq (.region [vP 2 (.mv (.c (.slice none 0 0)))])
 (.ret))
 (.skip)))
 (.seq (.region [vF 9 1 0,
 vL 10 1 9,
 vN 11 30 [(.s 10)],
 vM 3 11])
 (.seq (.seq (.region [vF 12 1 1,
 vL 13 1 12,
 vP 14 (.len (.s 13)),
 vP 15 (.mv (vi 0))])
 (.block 0 (.loop k11l0)))
 (.seq (.region [vM 24 3,
 vM 2 24])
 (.ret)))))
def k12 : Cd :=
  .seq (.region [vP 0 (.mv (.c (.bool false)))])
 (.seq (.region [vN 11 32 [],
 vP 1 (.alloc 25 [(.slice none 0 0), (.slice none 0 0)]),
 ⟨none, none, .inl (.st 2 (.s 1) (.s 11))⟩])
 (.seq (.region [vP 13 (.ld true 2 (.s 1)),
 vN 14 33 [(.s 13)],
 vM 12 14,
 vP 15 (.ex (.s 12) 0),
 vP 16 (.ex (.s 12) 1),
 vM 2 15,
 vM 3 16])
 (.seq (.region [vP 18 (.ld true 2 (.s 1)),
 vN 19 34 [(.s 18), (vi 0), (vi 6)],
 vM 17 19,
 vP 20 (.ex (.s 17) 0),
 vP 21 (.ex (.s 17) 1),
 vM 4 20,
 vM 5 21])
 (.seq (.region [vP 23 (.ld true 2 (.s 1)),
 vP 24 (.bst 3 1 2 [(.int .i64 0)] [(0, (vi 5)), (1, (vi 1))]),
 vN 25 35 [(.s 23), (.s 24)],
 vM 22 25,
 vP 26 (.ex (.s 22) 0),
 vP 27 (.ex (.s 22) 1),
 vP 28 (.ex (.s 22) 2),
 vM 6 26,
 vM 7 27,
 vM 8 28])
 (.seq (.region [vP 30 (.ld true 2 (.s 1)),
 vP 31 (.bst 3 1 2 [(.int .i64 0)] [(0, (vi 0)), (1, (vi 1))]),
 vN 32 36 [(.s 30), (.s 31)],
 vM 29 32,
 vP 33 (.ex (.s 29) 0),
 vP 34 (.ex (.s 29) 1),
 vM 9 33,
 vM 10 34])
 (.seq (.region [vM 35 2,
 vP 36 (.bst 3 1 2 [(.int .i64 0)] [(0, (vi 0)), (1, (vi 0))]),
 vP 37 (.bst 3 1 2 [(.int .i64 0)] [(0, (vi 0)), (1, (vi 2))]),
 vP 38 (.bst 3 1 2 [(.int .i64 0)] [(0, (vi 1)), (1, (vi 0))]),
 vP 39 (.bst 3 1 2 [(.int .i64 0)] [(0, (vi 1)), (1, (vi 2))]),
 vP 40 (.bst 33 1 4 [(.slice none 0 0)] [(0, (.s 36)), (1, (.s 37)), (2, (.s 38)), (3, (.s 39))]),
 vN 41 37 [(.s 35), (.s 40)],
 vM 42 41,
 vT 42 43 (.mv (.s 3)),
 vT 42 44 (vc .eql 43 0),
 vP 45 (.pick (.s 42) (.s 44) (.c (.bool false))),
 vM 46 45,
 vT 46 47 (.mv (.s 4)),
 vT 46 48 (.bld [(.int .i64 0), (.int .i64 0)] [(0, 1, (vi 13)), (1, 1, (vi 15))]),
 vT 46 49 (.bld [(.int .i64 0), (.int .i64 0)] [(0, 1, (vi 18)), (1, 1, (vi 21))]),
 vT 46 50 (.bst 68 2 2 [(.int .i64 0), (.int .i64 0)] [(0, (.s 48)), (1, (.s 49))]),
 ⟨some (46, true), some 51, .inr (.fn 38 [(.s 47), (.s 50)])⟩,
 vP 52 (.pick (.s 46) (.s 51) (.c (.bool false))),
 vM 53 52,
 vT 53 54 (.mv (.s 5)),
 vT 53 55 (vc .eql 54 0),
 vP 56 (.pick (.s 53) (.s 55) (.c (.bool false))),
 vM 57 56,
 vT 57 58 (.mv (.s 6)),
 vT 57 59 (.bst 3 1 2 [(.int .i64 0)] [(0, (vi 0)), (1, (vi 2))]),
 ⟨some (57, true), some 60, .inr (.fn 9 [(.s 58), (.s 59)])⟩,
 vP 61 (.pick (.s 57) (.s 60) (.c (.bool false))),
 vM 62 61,
 vT 62 63 (.mv (.s 7)),
 vT 62 64 (.bld [(.int .i64 0), (.int .i64 0)] [(0, 1, (vi 0))]),
 vT 62 65 (.bld [(.int .i64 0), (.int .i64 0)] [(0, 1, (vi 5)), (1, 1, (vi 12))]),
 vT 62 66 (.bld [(.int .i64 0), (.int .i64 0)] [(0, 1, (vi 6)), (1, 1, (vi 15))]),
 vT 62 67 (.bst 71 2 3 [(.int .i64 0), (.int .i64 0)] [(0, (.s 64)), (1, (.s 65)), (2, (.s 66))]),
 ⟨some (62, true), some 68, .inr (.fn 39 [(.s 63), (.s 67)])⟩,
 vP 69 (.pick (.s 62) (.s 68) (.c (.bool false))),
 vM 70 69,
 vT 70 71 (.mv (.s 8)),
 vT 70 72 (vc .eql 71 0),
 vP 73 (.pick (.s 70) (.s 72) (.c (.bool false))),
 vM 74 73,
 vT 74 75 (.mv (.s 9)),
 vT 74 76 (.bst 3 1 3 [(.int .i64 0)] [(0, (vi 1)), (1, (vi 2)), (2, (vi 3))]),
 ⟨some (74, true), some 77, .inr (.fn 9 [(.s 75), (.s 76)])⟩,
 vP 78 (.pick (.s 74) (.s 77) (.c (.bool false))),
 vM 79 78,
 vT 79 80 (.mv (.s 10)),
 vT 79 81 (vc .eql 80 0),
 vP 82 (.pick (.s 79) (.s 81) (.c (.bool false))),
 vM 0 82])
 (.ret)))))))
def k13l0 : Cd :=
  .seq (.region [vP 24 (vb .lss 23 22)])
 (.seq (.cond (.s 24) (.skip)
 (.exit 0))
 (.seq (.block 1 (.seq (.region [vM 25 23,
 vI 26 2 21 23,
 vP 27 (.ld true 2 (.s 26)),
 vP 8 (.alloc 28 [(.int .i64 0), (.slice none 0 0)]),
 vM 7 25,
 ⟨none, none, .inl (.st 2 (.s 8) (.s 27))⟩])
 (.seq (.draw [vD (vM 28 1) 0,
 vD (vM 29 7) 0,
 vD (vI 30 1 28 29) 3,
 vD (vL 31 1 30) 7,
 vD (vF 32 8 1) 0,
 vD (vL 33 1 32) 16,
 vD (vP 34 (.len (.s 33))) 48,
 vD (vP 35 (vc .sub 34 1)) 112,
 vD (vN 36 19 [(.s 31), (vi 0), (.s 35)]) 255,
 vD (vP 37 (.not (.s 36))) 511])
 (.cond (.s 37) (.seq (.region [vP 4 (.mv (.c (.slice none 0 0))),
 vP 5 (.mv (vi 51))])
 (.ret))
 (.skip)))))
 (.region [vP 38 (vc .add 23 1),
 vM 23 38])))
def k13 : Cd :=
  .seq (.region [vP 2 (.box 25 2 (.s 0)),
 vP 4 (.mv (.c (.slice none 0 0))),
 vP 5 (.mv (vi 0))])
 (.seq (.seq (.region [vP 9 (.ld true 2 (.s 2)),
 vN 10 7 [(.s 9)],
 vM 6 10])
 (.seq (.region [vM 11 6,
 vP 12 (vc .neq 11 0)])
 (.cond (.s 12) (.seq (.region [vM 13 6,
 vP 4 (.mv (.c (.slice none 0 0))),
 vM 5 13])
 (.ret))
 (.skip))))
 (.seq (.seq (.region [vM 14 1,
 vP 15 (.len (.s 14)),
 vF 16 2 1,
 vL 17 1 16,
 vP 18 (.len (.s 17)),
 vP 19 (vb .neq 15 18)])
 (.cond (.s 19) (.seq (.region [vP 4 (.mv (.c (.slice none 0 0))),
 vP 5 (.mv (vi 51))])
 (.ret))
 (.skip)))
 (.seq (.seq (.region [vF 20 2 1,
 vL 21 1 20,
 vP 22 (.len (.s 21)),
 vP 23 (.mv (vi 0))])
 (.block 0 (.loop k13l0)))
 (.seq (.region [vP 39 (.ld true 2 (.s 2)),
 vM 40 1,
 vN 41 40 [(.s 39), (.s 40)],
 vM 4 41,
 vP 5 (.mv (vi 0))])
 (.ret)))))
def k19 : Cd :=
  .seq (.region [vP 6 (.mv (.c (.bool false)))])
 (.seq (.region [vM 7 1,
 vM 8 0,
 vP 9 (vb .leq 7 8),
 vM 10 9,
 vT 10 11 (.mv (.s 0)),
 vT 10 12 (.mv (.s 2)),
 vT 10 13 (vb .leq 11 12),
 vP 14 (.pick (.s 10) (.s 13) (.c (.bool false))),
 vM 6 14])
 (.ret))
def k20 : Cd :=
  .seq (.region [vP 1 (.box 45 5 (.s 0)),
 vP 2 (.mv (vi 0))])
 (.seq (.region [vF 5 1 0,
 vL 6 1 5,
 vN 7 50 [(.s 6), (vi 0), (vi 2048)],
 vM 8 7,
 vT 8 9 (.fa (.s 1) 1),
 vT 8 10 (.ld false 1 (.s 9)),
 ⟨some (8, true), some 11, .inr (.fn 50 [(.s 10), (vi 0), (vi 2048)])⟩,
 vP 12 (.pick (.s 8) (.s 11) (.c (.bool false))),
 vM 13 12,
 vT 13 14 (.fa (.s 1) 0),
 vT 13 15 (.ld false 1 (.s 14)),
 vT 13 16 (.fa (.s 1) 1),
 vT 13 17 (.ld false 1 (.s 16)),
 vT 13 18 (vb .neq 15 17),
 vP 19 (.pick (.s 13) (.s 18) (.c (.bool false))),
 vM 3 19])
 (.seq (.region [vF 20 1 2,
 vL 21 1 20,
 vF 22 1 3,
 vL 23 1 22,
 vN 24 50 [(.s 21), (.c (.int .i64 (-100000))), (.s 23)],
 vM 25 24,
 vT 25 26 (.fa (.s 1) 3),
 vT 25 27 (.ld false 1 (.s 26)),
 vT 25 28 (vc .leq 27 100000),
 vP 29 (.pick (.s 25) (.s 28) (.c (.bool false))),
 vM 4 29])
 (.seq (.seq (.region [vM 30 3,
 vP 31 (.not (.s 30)),
 vM 32 31,
 vU 32 33 (.mv (.s 4)),
 vU 32 34 (.not (.s 33)),
 vP 35 (.pick (.s 32) (.c (.bool true)) (.s 34)),
 vM 36 35,
 vU 36 37 (.fa (.s 1) 4),
 vU 36 38 (.ld false 1 (.s 37)),
 ⟨some (36, false), some 39, .inr (.fn 50 [(.s 38), (vi 1), (vi 99999)])⟩,
 vU 36 40 (.not (.s 39)),
 vP 41 (.pick (.s 36) (.c (.bool true)) (.s 40))])
 (.cond (.s 41) (.seq (.region [vP 2 (.mv (vi 20))])
 (.ret))
 (.skip)))
 (.seq (.region [vP 2 (.mv (vi 0))])
 (.ret)))))
def k21 : Cd :=
  .seq (.region [vP 1 (.box 45 5 (.s 0)),
 vP 2 (.mv (vi 0))])
 (.seq (.seq (.region [vF 3 1 0,
 vL 4 1 3,
 vN 5 51 [(.s 4), (vi 0), (vi 2048)],
 vP 6 (.not (.s 5)),
 vM 7 6,
 vU 7 8 (.fa (.s 1) 1),
 vU 7 9 (.ld false 1 (.s 8)),
 ⟨some (7, false), some 10, .inr (.fn 51 [(.s 9), (vi 0), (vi 2048)])⟩,
 vU 7 11 (.not (.s 10)),
 vP 12 (.pick (.s 7) (.c (.bool true)) (.s 11)),
 vM 13 12,
 vU 13 14 (.fa (.s 1) 0),
 vU 13 15 (.ld false 1 (.s 14)),
 vU 13 16 (.fa (.s 1) 1),
 vU 13 17 (.ld false 1 (.s 16)),
 vU 13 18 (vb .eql 15 17),
 vP 19 (.pick (.s 13) (.c (.bool true)) (.s 18)),
 vM 20 19,
 vU 20 21 (.fa (.s 1) 2),
 vU 20 22 (.ld false 1 (.s 21)),
 ⟨some (20, false), some 23, .inr (.fn 51 [(.s 22), (.c (.int .i64 (-100000))), (vi 100000)])⟩,
 vU 20 24 (.not (.s 23)),
 vP 25 (.pick (.s 20) (.c (.bool true)) (.s 24)),
 vM 26 25,
 vU 26 27 (.fa (.s 1) 3),
 vU 26 28 (.ld false 1 (.s 27)),
 vU 26 29 (.fa (.s 1) 2),
 vU 26 30 (.ld false 1 (.s 29)),
 ⟨some (26, false), some 31, .inr (.fn 51 [(.s 28), (.s 30), (vi 100000)])⟩,
 vU 26 32 (.not (.s 31)),
 vP 33 (.pick (.s 26) (.c (.bool true)) (.s 32)),
 vM 34 33,
 vU 34 35 (.fa (.s 1) 4),
 vU 34 36 (.ld false 1 (.s 35)),
 ⟨some (34, false), some 37, .inr (.fn 51 [(.s 36), (vi 1), (vi 99999)])⟩,
 vU 34 38 (.not (.s 37)),
 vP 39 (.pick (.s 34) (.c (.bool true)) (.s 38))])
 (.cond (.s 39) (.seq (.region [vP 2 (.mv (vi 20))])
 (.ret))
 (.skip)))
 (.seq (.region [vP 2 (.mv (vi 0))])
 (.ret)))
def k22l0 : Cd :=
  .seq (.region [vP 12 (vb .lss 11 10)])
 (.seq (.cond (.s 12) (.skip)
 (.exit 0))
 (.seq (.block 1 (.seq (.region [vI 13 5 9 11,
 vP 14 (.ld true 5 (.s 13)),
 vP 4 (.alloc 45 [(.int .i64 0), (.int .i64 0), (.int .i64 0), (.int .i64 0), (.int .i64 0)]),
 ⟨none, none, .inl (.st 5 (.s 4) (.s 14))⟩])
 (.seq (.region [vP 15 (.ld true 5 (.s 4)),
 vN 16 20 [(.s 15)],
 vM 5 16])
 (.seq (.region [vM 17 5,
 vP 18 (vc .neq 17 0)])
 (.cond (.s 18) (.seq (.region [vM 19 5,
 vM 2 19])
 (.ret))
 (.skip))))))
 (.region [vP 20 (vc .add 11 1),
 vM 11 20])))
def k22 : Cd :=
  .seq (.region [vP 2 (.mv (vi 0))])
 (.seq (.seq (.region [vM 6 0,
 vP 7 (.len (.s 6)),
 vP 8 (vc .gtr 7 400)])
 (.cond (.s 8) (.seq (.region [vP 2 (.mv (vi 2))])
 (.ret))
 (.skip)))
 (.seq (.seq (.region [vM 9 0,
 vP 10 (.len (.s 9)),
 vP 11 (.mv (vi 0))])
 (.block 0 (.loop k22l0)))
 (.seq (.seq (.region [vM 21 0,
 vN 22 52 [(.s 21)],
 vP 23 (.len (.s 22)),
 vP 24 (vc .gtr 23 64)])
 (.cond (.s 24) (.seq (.region [vP 2 (.mv (vi 2))])
 (.ret))
 (.skip)))
 (.seq (.region [vP 2 (.mv (vi 0))])
 (.ret)))))
def k23l0 : Cd :=
  .seq (.region [vP 10 (vb .lss 9 8)])
 (.seq (.cond (.s 10) (.skip)
 (.exit 0))
 (.seq (.block 1 (.seq (.region [vI 11 1 7 9,
 vL 12 1 11,
 vM 5 12])
 (.region [vM 13 3,
 vM 14 5,
 vP 15 (.len (.s 14)),
 vP 16 (.mm true (.s 13) (.s 15)),
 vM 3 16])))
 (.region [vP 17 (vc .add 9 1),
 vM 9 17])))
def k23 : Cd :=
  .seq (.region [vP 1 (.box 28 2 (.s 0)),
 vP 2 (.mv (vi 0))])
 (.seq (.region [vP 3 (.mv (vi 0))])
 (.seq (.seq (.region [vF 6 1 1,
 vL 7 1 6,
 vP 8 (.len (.s 7)),
 vP 9 (.mv (vi 0))])
 (.block 0 (.loop k23l0)))
 (.seq (.region [vM 18 3,
 vM 2 18])
 (.ret))))
def k24l0 : Cd :=
  .seq (.region [vP 22 (vb .lss 21 20)])
 (.seq (.cond (.s 22) (.skip)
 (.exit 2))
 (.seq (.block 3 (.seq (.region [vI 23 1 19 21,
 vL 24 1 23,
 vM 7 24])
 (.region [vM 25 7,
 vN 26 53 [(.s 3), (.s 25)]])))
 (.region [vP 27 (vc .add 21 1),
 vM 21 27])))
def k24l1 : Cd :=
  .seq (.region [vP 15 (vb .lss 14 13)])
 (.seq (.cond (.s 15) (.skip)
 (.exit 0))
 (.seq (.block 1 (.seq (.region [vI 16 2 12 14,
 vP 17 (.ld true 2 (.s 16)),
 vP 5 (.alloc 28 [(.int .i64 0), (.slice none 0 0)]),
 ⟨none, none, .inl (.st 2 (.s 5) (.s 17))⟩])
 (.seq (.region [vF 18 5 1,
 vL 19 1 18,
 vP 20 (.len (.s 19)),
 vP 21 (.mv (vi 0))])
 (.block 2 (.loop k24l0)))))
 (.region [vP 28 (vc .add 14 1),
 vM 14 28])))
def k24 : Cd :=
  .seq (.region [vP 1 (.box 25 2 (.s 0)),
 vP 2 (.mv (.c (.slice none 0 0)))])
 (.seq (.region [vP 3 (.alloc 86 [(.int .u64 0), (.int .u64 0), (.int .u64 0), (.int .u64 0), (.int .u64 0), (.int .u64 0), (.int .u64 0), (.int .u64 0), (.int .u64 0), (.int .u64 0), (.int .u64 0), (.int .u64 0), (.int .u64 0), (.int .u64 0), (.int .u64 0), (.int .u64 0), (.int .u64 0), (.int .u64 0), (.int .u64 0), (.int .u64 0), (.int .u64 0), (.int .u64 0), (.int .u64 0), (.int .u64 0), (.int .u64 0), (.int .u64 0), (.int .u64 0), (.int .u64 0), (.int .u64 0), (.int .u64 0), (.int .u64 0), (.int .u64 0), (.int .u64 0)])])
 (.seq (.region [vF 8 1 0,
 vL 9 1 8,
 vN 10 53 [(.s 3), (.s 9)]])
 (.seq (.seq (.region [vF 11 1 1,
 vL 12 1 11,
 vP 13 (.len (.s 12)),
 vP 14 (.mv (vi 0))])
 (.block 0 (.loop k24l1)))
 (.seq (.region [vN 29 54 [(.s 3)],
 vM 2 29])
 (.ret)))))
def k25l0 : Cd :=
  .seq (.region [vP 11 (vb .lss 10 9)])
 (.seq (.cond (.s 11) (.skip)
 (.exit 0))
 (.seq (.block 1 (.seq (.region [vI 12 5 8 10,
 vP 13 (.ld true 5 (.s 12)),
 vP 4 (.alloc 45 [(.int .i64 0), (.int .i64 0), (.int .i64 0), (.int .i64 0), (.int .i64 0)]),
 ⟨none, none, .inl (.st 5 (.s 4) (.s 13))⟩])
 (.seq (.region [vP 14 (.ld true 5 (.s 4)),
 vN 15 21 [(.s 14)],
 vP 16 (vc .neq 15 0)])
 (.cond (.s 16) (.seq (.region [vP 2 (.mv (vi 20))])
 (.ret))
 (.skip)))))
 (.region [vP 17 (vc .add 10 1),
 vM 10 17])))
def k25 : Cd :=
  .seq (.region [vP 2 (.mv (vi 0))])
 (.seq (.seq (.region [vM 5 0,
 vP 6 (.len (.s 5)),
 vP 7 (vc .gtr 6 400)])
 (.cond (.s 7) (.seq (.region [vP 2 (.mv (vi 2))])
 (.ret))
 (.skip)))
 (.seq (.seq (.region [vM 8 0,
 vP 9 (.len (.s 8)),
 vP 10 (.mv (vi 0))])
 (.block 0 (.loop k25l0)))
 (.seq (.seq (.region [vM 18 0,
 vN 19 55 [(.s 18)],
 vP 20 (.len (.s 19)),
 vP 21 (vc .gtr 20 64)])
 (.cond (.s 21) (.seq (.region [vP 2 (.mv (vi 2))])
 (.ret))
 (.skip)))
 (.seq (.region [vP 2 (.mv (vi 0))])
 (.ret)))))
def k26l0 : Cd :=
  .seq (.region [vP 22 (vb .lss 21 20)])
 (.seq (.cond (.s 22) (.skip)
 (.exit 2))
 (.seq (.block 3 (.seq (.region [vI 23 1 19 21,
 vL 24 1 23,
 vM 7 24])
 (.region [vM 25 3,
 vM 26 7,
 vN 27 56 [(.s 25), (.s 26)],
 vM 3 27])))
 (.region [vP 28 (vc .add 21 1),
 vM 21 28])))
def k26l1 : Cd :=
  .seq (.region [vP 15 (vb .lss 14 13)])
 (.seq (.cond (.s 15) (.skip)
 (.exit 0))
 (.seq (.block 1 (.seq (.region [vI 16 2 12 14,
 vP 17 (.ld true 2 (.s 16)),
 vP 5 (.alloc 28 [(.int .i64 0), (.slice none 0 0)]),
 ⟨none, none, .inl (.st 2 (.s 5) (.s 17))⟩])
 (.seq (.region [vF 18 5 1,
 vL 19 1 18,
 vP 20 (.len (.s 19)),
 vP 21 (.mv (vi 0))])
 (.block 2 (.loop k26l0)))))
 (.region [vP 29 (vc .add 14 1),
 vM 14 29])))
def k26 : Cd :=
  .seq (.region [vP 1 (.box 25 2 (.s 0)),
 vP 2 (.mv (.c (.slice none 0 0)))])
 (.seq (.region [vF 8 1 0,
 vL 9 1 8,
 vN 10 56 [(.c (.slice none 0 0)), (.s 9)],
 vM 3 10])
 (.seq (.seq (.region [vF 11 1 1,
 vL 12 1 11,
 vP 13 (.len (.s 12)),
 vP 14 (.mv (vi 0))])
 (.block 0 (.loop k26l1)))
 (.seq (.region [vM 30 3,
 vM 2 30])
 (.ret))))
def k27l0 : Cd :=
  .seq (.region [vP 15 (vb .lss 14 13)])
 (.seq (.cond (.s 15) (.skip)
 (.exit 0))
 (.seq (.block 1 (.seq (.region [vI 16 5 12 14,
 vP 17 (.ld true 5 (.s 16)),
 vP 5 (.alloc 45 [(.int .i64 0), (.int .i64 0), (.int .i64 0), (.int .i64 0), (.int .i64 0)]),
 ⟨none, none, .inl (.st 5 (.s 5) (.s 17))⟩])
 (.region [vM 18 3,
 vF 19 5 4,
 vL 20 1 19,
 vP 21 (.bs 3 1 1 [(.int .i64 0)] [(0, (.s 20))]),
 vP 22 (.app 3 1 8 (.s 18) (.s 21)),
 vM 3 22])))
 (.region [vP 23 (vc .add 14 1),
 vM 14 23])))
def k27 : Cd :=
  .seq (.region [vP 2 (.mv (.c (.slice none 0 0)))])
 (.seq (.seq (.region [vM 6 0,
 vN 7 22 [(.s 6)],
 vP 8 (vc .neq 7 0)])
 (.cond (.s 8) (.seq (.region [vP 2 (.mv (.c (.slice none 0 0)))])
 (.ret))
 (.skip)))
 (.seq (.region [vM 9 0,
 vP 10 (.len (.s 9)),
 vP 11 (.mks 3 1 8 [(.int .i64 0)] (vi 0) (.s 10)),
 vM 3 11])
 (.seq (.seq (.region [vM 12 0,
 vP 13 (.len (.s 12)),
 vP 14 (.mv (vi 0))])
 (.block 0 (.loop k27l0)))
 (.seq (.region [vM 24 3,
 vN 25 57 [(.s 24)],
 vM 2 25])
 (.ret)))))
def k28 : Cd :=
  .seq (.region [vM 3 0,
 vP 4 (.len (.s 3)),
 vM 2 4])
 (.region [vM 5 0,
 vM 6 2,
 vM 7 2,
 vP 8 (.cvi .u64 (.s 7)),
 vN 9 59 [(.s 8)],
 vN 10 58 [(.s 5), (vi 0), (.s 6), (.s 9)]])
def k29l0 : Cd :=
  .seq (.seq (.region [vM 29 5,
 vM 30 4,
 vP 31 (.len (.s 30)),
 vP 32 (vb .lss 29 31)])
 (.cond (.s 32) (.skip)
 (.exit 2)))
 (.seq (.block 3 (.seq (.draw [vD (vM 35 4) 0,
 vD (vM 36 5) 0,
 vD (vI 37 1 35 36) 3,
 vD (vL 38 1 37) 7,
 vD (vM 39 4) 0,
 vD (vM 40 5) 0,
 vD (vP 41 (vc .sub 40 1)) 32,
 vD (vI 42 1 39 41) 112,
 vD (vL 43 1 42) 240,
 vD (vP 44 (vb .neq 38 43)) 511])
 (.cond (.s 44) (.seq (.region [vM 45 0,
 vM 46 3,
 vM 47 4,
 vM 48 5,
 vI 49 1 47 48,
 vL 50 1 49,
 vI 51 1 45 46,
 ⟨none, none, .inl (.st 1 (.s 51) (.s 50))⟩])
 (.region [vM 52 3,
 vP 53 (vc .add 52 1),
 vM 3 53]))
 (.skip))))
 (.region [vM 33 5,
 vP 34 (vc .add 33 1),
 vM 5 34]))
def k29l1 : Cd :=
  .seq (.seq (.region [vM 10 3,
 vM 11 0,
 vP 12 (.len (.s 11)),
 vP 13 (vb .lss 10 12)])
 (.cond (.s 13) (.skip)
 (.exit 0)))
 (.seq (.block 1 (.seq (.draw [vD (vM 16 0) 0,
 vD (vM 17 3) 0,
 vD (vI 18 1 16 17) 3,
 vD (vL 19 1 18) 7,
 vD (vM 20 0) 0,
 vD (vM 21 3) 0,
 vD (vP 22 (vc .sub 21 1)) 32,
 vD (vI 23 1 20 22) 112,
 vD (vL 24 1 23) 240,
 vD (vP 25 (vb .eql 19 24)) 511])
 (.cond (.s 25) (.seq (.region [vM 26 0,
 vM 27 3,
 vP 28 (.slc 1 (.s 26) (some (.s 27)) none none),
 vM 4 28])
 (.seq (.seq (.region [vP 5 (.mv (vi 1))])
 (.block 2 (.loop k29l0)))
 (.seq (.region [vM 54 0,
 vM 55 3,
 vP 56 (.slc 1 (.s 54) (some (.s 55)) none none),
 ⟨none, none, .inl (.clr [(.int .i64 0)] (.s 56))⟩])
 (.seq (.region [vM 57 0,
 vM 58 3,
 vP 59 (.slc 1 (.s 57) none (some (.s 58)) none),
 vM 2 59])
 (.ret)))))
 (.skip))))
 (.region [vM 14 3,
 vP 15 (vc .add 14 1),
 vM 3 15]))
def k29 : Cd :=
  .seq (.region [vP 2 (.mv (.c (.slice none 0 0)))])
 (.seq (.seq (.region [vM 6 0,
 vP 7 (.len (.s 6)),
 vP 8 (vc .lss 7 2)])
 (.cond (.s 8) (.seq (.region [vM 9 0,
 vM 2 9])
 (.ret))
 (.skip)))
 (.seq (.seq (.region [vP 3 (.mv (vi 1))])
 (.block 0 (.loop k29l1)))
 (.seq (.region [vM 60 0,
 vM 2 60])
 (.ret))))
def k30 : Cd :=
  .seq (.region [vP 2 (.mv (.c (.slice none 0 0)))])
 (.seq (.seq (.region [vM 3 0,
 vN 4 25 [(.s 3)],
 vP 5 (vc .neq 4 0)])
 (.cond (.s 5) (.seq (.region [vP 2 (.mv (.c (.slice none 0 0)))])
 (.ret))
 (.skip)))
 (.seq (.region [vM 6 0,
 vN 7 60 [(.s 6)],
 vM 2 7])
 (.ret)))
def k31l0 : Cd :=
  .seq (.seq (.region [vM 9 5,
 vP 10 (vc .gtr 9 0),
 vM 11 10,
 vT 11 12 (.mv (.s 0)),
 vT 11 13 (.mv (.s 5)),
 vT 11 14 (vc .sub 13 1),
 vT 11 15 (.ias 1 (.s 12) (.s 14)),
 vT 11 16 (.ld false 1 (.s 15)),
 vT 11 17 (.mv (.s 1)),
 vT 11 18 (vb .geq 16 17),
 vP 19 (.pick (.s 11) (.s 18) (.c (.bool false)))])
 (.cond (.s 19) (.skip)
 (.exit 0)))
 (.block 1 (.region [vM 20 5,
 vP 21 (vc .sub 20 1),
 vM 5 21]))
def k31 : Cd :=
  .seq (.region [vP 4 (.mv (.c (.slice none 0 0)))])
 (.seq (.region [vM 7 0,
 vP 8 (.len (.s 7)),
 vM 5 8])
 (.seq (.block 0 (.loop k31l0))
 (.seq (.seq (.region [vM 22 5,
 vM 23 0,
 vP 24 (.len (.s 23)),
 vP 25 (vb .lss 22 24),
 vM 26 25,
 vT 26 27 (.mv (.s 0)),
 vT 26 28 (.mv (.s 5)),
 vT 26 29 (.ias 1 (.s 27) (.s 28)),
 vT 26 30 (.ld false 1 (.s 29)),
 vT 26 31 (.mv (.s 1)),
 vT 26 32 (vb .eql 30 31),
 vP 33 (.pick (.s 26) (.s 32) (.c (.bool false)))])
 (.cond (.s 33) (.seq (.region [vM 34 0,
 vM 4 34])
 (.ret))
 (.skip)))
 (.seq (.region [vP 35 (.bs 3 1 0 [(.int .i64 0)] []),
 vM 36 0,
 vM 37 5,
 vP 38 (.slc 1 (.s 36) none (some (.s 37)) none),
 vP 39 (.app 3 1 8 (.s 35) (.s 38)),
 vM 6 39])
 (.seq (.region [vM 40 6,
 vM 41 1,
 vP 42 (.bs 3 1 1 [(.int .i64 0)] [(0, (.s 41))]),
 vP 43 (.app 3 1 8 (.s 40) (.s 42)),
 vM 6 43])
 (.seq (.region [vM 44 6,
 vM 45 0,
 vM 46 5,
 vP 47 (.slc 1 (.s 45) (some (.s 46)) none none),
 vP 48 (.app 3 1 8 (.s 44) (.s 47)),
 vM 4 48])
 (.ret)))))))
def k32 : Cd :=
  .seq (.region [vP 0 (.alloc 25 [(.slice none 0 0), (.slice none 0 0)])])
 (.seq (.region [vP 1 (.bld [(.int .i64 0), (.int .i64 0), (.int .i64 0), (.int .i64 0), (.int .i64 0)] [(0, 1, (vi 0)), (1, 1, (vi 5)), (2, 1, (vi 10)), (3, 1, (vi 12)), (4, 1, (vi 1))]),
 vP 2 (.bst 45 5 1 [(.int .i64 0), (.int .i64 0), (.int .i64 0), (.int .i64 0), (.int .i64 0)] [(0, (.s 1))]),
 vP 3 (.bld [(.int .i64 0), (.int .i64 0), (.int .i64 0), (.int .i64 0), (.int .i64 0)] [(0, 1, (vi 5)), (1, 1, (vi 6)), (2, 1, (vi 3)), (3, 1, (vi 3)), (4, 1, (vi 2))]),
 vP 4 (.bst 45 5 1 [(.int .i64 0), (.int .i64 0), (.int .i64 0), (.int .i64 0), (.int .i64 0)] [(0, (.s 3))]),
 vP 5 (.bld [(.int .i64 0), (.int .i64 0), (.int .i64 0), (.int .i64 0), (.int .i64 0)] [(0, 1, (vi 5)), (1, 1, (vi 6)), (2, 1, (vi 8)), (3, 1, (vi 9)), (4, 1, (vi 2))]),
 vP 6 (.bst 45 5 1 [(.int .i64 0), (.int .i64 0), (.int .i64 0), (.int .i64 0), (.int .i64 0)] [(0, (.s 5))]),
 vP 7 (.bst 22 1 2 [(.slice none 0 0)] [(0, (.s 4)), (1, (.s 6))]),
 vP 8 (.bld [(.int .i64 0), (.slice none 0 0)] [(0, 1, (vi 2)), (1, 1, (.s 7))]),
 vP 9 (.bld [(.int .i64 0), (.int .i64 0), (.int .i64 0), (.int .i64 0), (.int .i64 0)] [(0, 1, (vi 0)), (1, 1, (vi 6)), (2, 1, (vi 30)), (3, 1, (vi 40)), (4, 1, (vi 3))]),
 vP 10 (.bst 45 5 1 [(.int .i64 0), (.int .i64 0), (.int .i64 0), (.int .i64 0), (.int .i64 0)] [(0, (.s 9))]),
 vP 11 (.bld [(.int .i64 0), (.int .i64 0), (.int .i64 0), (.int .i64 0), (.int .i64 0)] [(0, 1, (vi 0)), (1, 1, (vi 6)), (2, 1, (vi 14)), (3, 1, (vi 20)), (4, 1, (vi 3))]),
 vP 12 (.bst 45 5 1 [(.int .i64 0), (.int .i64 0), (.int .i64 0), (.int .i64 0), (.int .i64 0)] [(0, (.s 11))]),
 vP 13 (.bst 22 1 3 [(.slice none 0 0)] [(0, (.c (.slice none 0 0))), (1, (.s 10)), (2, (.s 12))]),
 vP 14 (.bld [(.int .i64 0), (.slice none 0 0)] [(0, 1, (vi 3)), (1, 1, (.s 13))]),
 vP 15 (.bst 28 2 2 [(.int .i64 0), (.slice none 0 0)] [(0, (.s 8)), (1, (.s 14))]),
 vP 16 (.bld [(.slice none 0 0), (.slice none 0 0)] [(0, 1, (.s 2)), (1, 1, (.s 15))]),
 ⟨none, none, .inl (.st 2 (.s 0) (.s 16))⟩])
 (.ret))
def k33 : Cd :=
  .seq (.region [vP 1 (.box 25 2 (.s 0)),
 vP 2 (.mv (.c (.slice none 0 0))),
 vP 3 (.mv (vi 0))])
 (.seq (.seq (.region [vP 6 (.ld true 2 (.s 1)),
 vN 7 7 [(.s 6)],
 vM 4 7])
 (.seq (.region [vM 8 4,
 vP 9 (vc .neq 8 0)])
 (.cond (.s 9) (.seq (.region [vM 10 4,
 vP 2 (.mv (.c (.slice none 0 0))),
 vM 3 10])
 (.ret))
 (.skip))))
 (.seq (.region [vP 5 (.alloc 54 [(.slice none 0 0)])])
 (.seq (.region [vP 11 (.ld true 2 (.s 1)),
 vP 12 (.mkf (.func 62) [] [(.s 5)]),
 vN 13 61 [(.s 11), (.s 12)]])
 (.seq (.region [vL 14 1 5,
 vM 2 14,
 vP 3 (.mv (vi 0))])
 (.ret)))))
def k34 : Cd :=
  .seq (.region [vP 3 (.box 25 2 (.s 0)),
 vP 4 (.box 3 1 (.s 1)),
 vP 5 (.box 3 1 (.s 2)),
 vP 6 (.mv (.c (.slice none 0 0))),
 vP 7 (.mv (vi 0))])
 (.seq (.seq (.region [vP 10 (.ld true 2 (.s 3)),
 vL 11 1 4,
 vL 12 1 5,
 vN 13 63 [(.s 10), (.s 11), (.s 12)],
 vM 8 13])
 (.seq (.region [vM 14 8,
 vP 15 (vc .neq 14 0)])
 (.cond (.s 15) (.seq (.region [vM 16 8,
 vP 6 (.mv (.c (.slice none 0 0))),
 vM 7 16])
 (.ret))
 (.skip))))
 (.seq (.region [vP 9 (.alloc 57 [(.slice none 0 0)])])
 (.seq (.region [vP 17 (.ld true 2 (.s 3)),
 vP 18 (.mkf (.func 64) [] [(.s 4), (.s 5), (.s 9)]),
 vN 19 61 [(.s 17), (.s 18)]])
 (.seq (.seq (.region [vL 20 1 9,
 vP 21 (.len (.s 20)),
 vP 22 (vc .eql 21 0)])
 (.cond (.s 22) (.seq (.region [vP 6 (.mv (.c (.slice none 0 0))),
 vP 7 (.mv (vi 25))])
 (.ret))
 (.skip)))
 (.seq (.region [vL 23 1 9,
 vN 24 66 [(.s 23)],
 vM 6 24,
 vP 7 (.mv (vi 0))])
 (.ret))))))
def k35 : Cd :=
  .seq (.region [vP 2 (.box 25 2 (.s 0)),
 vP 4 (.mv (.c (.slice none 0 0))),
 vP 5 (.mv (.c (.slice none 0 0))),
 vP 6 (.mv (vi 0))])
 (.seq (.region [vP 13 (.ld true 2 (.s 2)),
 vN 14 33 [(.s 13)],
 vM 12 14,
 vP 15 (.ex (.s 12) 0),
 vP 16 (.ex (.s 12) 1),
 vM 7 15,
 vM 8 16])
 (.seq (.seq (.region [vM 17 8,
 vP 18 (vc .neq 17 0)])
 (.cond (.s 18) (.seq (.region [vM 19 8,
 vP 4 (.mv (.c (.slice none 0 0))),
 vP 5 (.mv (.c (.slice none 0 0))),
 vM 6 19])
 (.ret))
 (.skip)))
 (.seq (.seq (.region [vM 20 7,
 vP 21 (.len (.s 20)),
 vP 22 (vc .eql 21 0)])
 (.cond (.s 22) (.seq (.region [vP 4 (.mv (.c (.slice none 0 0))),
 vP 5 (.mv (.c (.slice none 0 0))),
 vP 6 (.mv (vi 25))])
 (.ret))
 (.skip)))
 (.seq (.region [vM 23 7,
 vM 24 1,
 vM 25 7,
 vP 26 (.len (.s 25)),
 vN 27 67 [(.s 24), (vi 0), (.s 26)],
 vI 28 1 23 27,
 vL 29 1 28,
 vM 9 29])
 (.seq (.seq (.region [vM 30 1,
 vP 31 (.len (.s 30)),
 vP 32 (vc .gtr 31 0)])
 (.cond (.s 32) (.draw [vD (vM 33 1) 0,
 vD (vP 34 (.slc 1 (.s 33) (some (vi 1)) none none)) 1,
 vD (vM 35 1) 0,
 vD (vP 36 (.slc 1 (.s 35) none (some (vi 1)) none)) 4,
 ⟨vP 37 (.bst 33 1 2 [(.slice none 0 0)] [(0, (.s 34)), (1, (.s 36))]), (some [.fr 37]), [], 15, false⟩,
 vD (vN 38 68 [(.s 37)]) 31,
 vD (vM 1 38) 63])
 (.skip)))
 (.seq (.region [vP 40 (.ld true 2 (.s 2)),
 vM 41 9,
 vN 42 40 [(.s 40), (.s 41)],
 vM 43 1,
 vN 44 69 [(.s 42), (.s 43)],
 vM 39 44,
 vP 45 (.ex (.s 39) 0),
 vP 46 (.ex (.s 39) 1),
 vM 10 45,
 vM 11 46])
 (.seq (.region [vM 47 9,
 vP 48 (.ld true 2 (.s 2)),
 vM 49 10,
 vN 50 70 [(.s 48), (.s 49)],
 vM 4 47,
 vM 5 50,
 vP 6 (.mv (vi 0))])
 (.ret))))))))
def k36 : Cd :=
  .seq (.region [vP 2 (.box 25 2 (.s 0)),
 vP 4 (.mv (.c (.slice none 0 0))),
 vP 5 (.mv (vi 0))])
 (.seq (.region [vP 9 (.ld true 2 (.s 2)),
 vM 10 1,
 vN 11 13 [(.s 9), (.s 10)],
 vM 8 11,
 vP 12 (.ex (.s 8) 0),
 vP 13 (.ex (.s 8) 1),
 vM 6 12,
 vM 7 13])
 (.seq (.seq (.region [vM 14 7,
 vP 15 (vc .neq 14 0)])
 (.cond (.s 15) (.seq (.region [vM 16 7,
 vP 4 (.mv (.c (.slice none 0 0))),
 vM 5 16])
 (.ret))
 (.skip)))
 (.seq (.region [vM 17 6,
 vN 18 71 [(.s 17)],
 vP 19 (.ex (.s 18) 0),
 vP 20 (.ex (.s 18) 1),
 vM 4 19,
 vM 5 20])
 (.ret))))
def k37l0 : Cd :=
  .seq (.region [vP 14 (vb .lss 13 12)])
 (.seq (.cond (.s 14) (.skip)
 (.exit 0))
 (.seq (.block 1 (.seq (.region [vM 15 13,
 vM 5 15])
 (.seq (.draw [vD (vM 16 0) 0,
 vD (vM 17 5) 0,
 vD (vI 18 1 16 17) 3,
 vD (vL 19 1 18) 7,
 vD (vM 20 1) 0,
 vD (vM 21 5) 0,
 vD (vI 22 1 20 21) 48,
 vD (vL 23 1 22) 112,
 vD (vN 24 9 [(.s 19), (.s 23)]) 255,
 vD (vP 25 (.not (.s 24))) 511])
 (.cond (.s 25) (.seq (.region [vP 4 (.mv (.c (.bool false)))])
 (.ret))
 (.skip)))))
 (.region [vP 26 (vc .add 13 1),
 vM 13 26])))
def k37 : Cd :=
  .seq (.region [vP 4 (.mv (.c (.bool false)))])
 (.seq (.seq (.region [vM 6 0,
 vP 7 (.len (.s 6)),
 vM 8 1,
 vP 9 (.len (.s 8)),
 vP 10 (vb .neq 7 9)])
 (.cond (.s 10) (.seq (.region [vP 4 (.mv (.c (.bool false)))])
 (.ret))
 (.skip)))
 (.seq (.seq (.region [vM 11 0,
 vP 12 (.len (.s 11)),
 vP 13 (.mv (vi 0))])
 (.block 0 (.loop k37l0)))
 (.seq (.region [vP 4 (.mv (.c (.bool true)))])
 (.ret))))
def k38l0 : Cd :=
  .seq (.region [vP 14 (vb .lss 13 12)])
 (.seq (.cond (.s 14) (.skip)
 (.exit 0))
 (.seq (.block 1 (.seq (.region [vM 15 13,
 vM 5 15])
 (.seq (.draw [vD (vM 16 0) 0,
 vD (vM 17 5) 0,
 vD (vI 18 2 16 17) 3,
 vD (vP 19 (.ld true 2 (.s 18))) 7,
 vD (vM 20 1) 0,
 vD (vM 21 5) 0,
 vD (vI 22 2 20 21) 48,
 vD (vP 23 (.ld true 2 (.s 22))) 112,
 vD (vP 24 (.eq true (.cells [.int, .int]) (.s 19) (.s 23))) 255])
 (.cond (.s 24) (.seq (.region [vP 4 (.mv (.c (.bool false)))])
 (.ret))
 (.skip)))))
 (.region [vP 25 (vc .add 13 1),
 vM 13 25])))
def k38 : Cd :=
  .seq (.region [vP 4 (.mv (.c (.bool false)))])
 (.seq (.seq (.region [vM 6 0,
 vP 7 (.len (.s 6)),
 vM 8 1,
 vP 9 (.len (.s 8)),
 vP 10 (vb .neq 7 9)])
 (.cond (.s 10) (.seq (.region [vP 4 (.mv (.c (.bool false)))])
 (.ret))
 (.skip)))
 (.seq (.seq (.region [vM 11 0,
 vP 12 (.len (.s 11)),
 vP 13 (.mv (vi 0))])
 (.block 0 (.loop k38l0)))
 (.seq (.region [vP 4 (.mv (.c (.bool true)))])
 (.ret))))
def k39l0 : Cd :=
  .seq (.region [vP 14 (vb .lss 13 12)])
 (.seq (.cond (.s 14) (.skip)
 (.exit 0))
 (.seq (.block 1 (.seq (.region [vM 15 13,
 vM 5 15])
 (.seq (.draw [vD (vM 16 0) 0,
 vD (vM 17 5) 0,
 vD (vI 18 2 16 17) 3,
 vD (vP 19 (.ld true 2 (.s 18))) 7,
 vD (vM 20 1) 0,
 vD (vM 21 5) 0,
 vD (vI 22 2 20 21) 48,
 vD (vP 23 (.ld true 2 (.s 22))) 112,
 vD (vP 24 (.eq true (.cells [.int, .int]) (.s 19) (.s 23))) 255])
 (.cond (.s 24) (.seq (.region [vP 4 (.mv (.c (.bool false)))])
 (.ret))
 (.skip)))))
 (.region [vP 25 (vc .add 13 1),
 vM 13 25])))
def k39 : Cd :=
  .seq (.region [vP 4 (.mv (.c (.bool false)))])
 (.seq (.seq (.region [vM 6 0,
 vP 7 (.len (.s 6)),
 vM 8 1,
 vP 9 (.len (.s 8)),
 vP 10 (vb .neq 7 9)])
 (.cond (.s 10) (.seq (.region [vP 4 (.mv (.c (.bool false)))])
 (.ret))
 (.skip)))
 (.seq (.seq (.region [vM 11 0,
 vP 12 (.len (.s 11)),
 vP 13 (.mv (vi 0))])
 (.block 0 (.loop k39l0)))
 (.seq (.region [vP 4 (.mv (.c (.bool true)))])
 (.ret))))
def k40l0 : Cd :=
  .seq (.region [vP 14 (vb .lss 13 12)])
 (.seq (.cond (.s 14) (.skip)
 (.exit 0))
 (.seq (.block 1 (.seq (.region [vM 15 13,
 vI 16 1 11 13,
 vL 17 1 16,
 vM 6 15,
 vM 7 17])
 (.region [vM 18 5,
 vF 19 2 1,
 vL 20 1 19,
 vM 21 6,
 vI 22 2 20 21,
 vF 23 22 1,
 vL 24 1 23,
 vM 25 7,
 vI 26 1 24 25,
 vL 27 1 26,
 vP 28 (.app 45 5 40 (.s 18) (.s 27)),
 vM 5 28])))
 (.region [vP 29 (vc .add 13 1),
 vM 13 29])))
def k40 : Cd :=
  .seq (.region [vP 2 (.box 25 2 (.s 0)),
 vP 4 (.mv (.c (.slice none 0 0)))])
 (.seq (.region [vF 8 2 0,
 vL 9 1 8,
 vN 10 46 [(.s 9)],
 vM 5 10])
 (.seq (.seq (.region [vM 11 1,
 vP 12 (.len (.s 11)),
 vP 13 (.mv (vi 0))])
 (.block 0 (.loop k40l0)))
 (.seq (.region [vM 30 5,
 vM 4 30])
 (.ret))))
def k46 : Cd :=
  .seq (.region [vP 2 (.mv (.c (.slice none 0 0)))])
 (.seq (.seq (.region [vM 3 0,
 vP 4 (.eq false (.nil .slice) (.s 3) (.c (.slice none 0 0)))])
 (.cond (.s 4) (.seq (.region [vP 2 (.mv (.c (.slice none 0 0)))])
 (.ret))
 (.skip)))
 (.seq (.region [vP 5 (.bs 45 5 0 [(.int .i64 0), (.int .i64 0), (.int .i64 0), (.int .i64 0), (.int .i64 0)] []),
 vM 6 0,
 vP 7 (.app 45 5 40 (.s 5) (.s 6)),
 vM 2 7])
 (.ret)))
def k50 : Cd :=
  .seq (.region [vP 6 (.mv (.c (.bool false)))])
 (.seq (.region [vM 7 1,
 vM 8 0,
 vP 9 (vb .leq 7 8),
 vM 10 9,
 vT 10 11 (.mv (.s 0)),
 vT 10 12 (.mv (.s 2)),
 vT 10 13 (vb .leq 11 12),
 vP 14 (.pick (.s 10) (.s 13) (.c (.bool false))),
 vM 6 14])
 (.ret))
def k51 : Cd :=
  .seq (.region [vP 6 (.mv (.c (.bool false)))])
 (.seq (.region [vM 7 1,
 vM 8 0,
 vP 9 (vb .leq 7 8),
 vM 10 9,
 vT 10 11 (.mv (.s 0)),
 vT 10 12 (.mv (.s 2)),
 vT 10 13 (vb .leq 11 12),
 vP 14 (.pick (.s 10) (.s 13) (.c (.bool false))),
 vM 6 14])
 (.ret))
def k52 : Cd :=
  .seq (.region [vP 2 (.mv (.c (.slice none 0 0)))])
 (.seq (.region [vP 3 (.alloc 86 [(.int .u64 0), (.int .u64 0), (.int .u64 0), (.int .u64 0), (.int .u64 0), (.int .u64 0), (.int .u64 0), (.int .u64 0), (.int .u64 0), (.int .u64 0), (.int .u64 0), (.int .u64 0), (.int .u64 0), (.int .u64 0), (.int .u64 0), (.int .u64 0), (.int .u64 0), (.int .u64 0), (.int .u64 0), (.int .u64 0), (.int .u64 0), (.int .u64 0), (.int .u64 0), (.int .u64 0), (.int .u64 0), (.int .u64 0), (.int .u64 0), (.int .u64 0), (.int .u64 0), (.int .u64 0), (.int .u64 0), (.int .u64 0), (.int .u64 0)])])
 (.seq (.region [vM 4 0,
 vN 5 53 [(.s 3), (.s 4)]])
 (.seq (.region [vN 6 54 [(.s 3)],
 vM 2 6])
 (.ret))))
def k53l0 : Cd :=
  .seq (.region [vP 9 (vb .lss 8 7)])
 (.seq (.cond (.s 9) (.skip)
 (.exit 0))
 (.seq (.block 1 (.seq (.region [vI 10 5 6 8,
 vP 11 (.ld true 5 (.s 10)),
 vP 5 (.alloc 45 [(.int .i64 0), (.int .i64 0), (.int .i64 0), (.int .i64 0), (.int .i64 0)]),
 ⟨none, none, .inl (.st 5 (.s 5) (.s 11))⟩])
 (.seq (.region [vM 12 0,
 vF 13 5 0,
 vL 14 1 13,
 vN 15 78 [(.s 12), (.s 14)]])
 (.region [vM 16 0,
 vF 17 5 1,
 vL 18 1 17,
 vN 19 78 [(.s 16), (.s 18)]]))))
 (.region [vP 20 (vc .add 8 1),
 vM 8 20])))
def k53 : Cd :=
  .seq (.region [vM 6 1,
 vP 7 (.len (.s 6)),
 vP 8 (.mv (vi 0))])
 (.block 0 (.loop k53l0))
def k54l0 : Cd :=
  .seq (.seq (.region [vM 14 5,
 vP 15 (.bin .neq (.s 14) (.c (.int .u64 0)))])
 (.cond (.s 15) (.skip)
 (.exit 2)))
 (.seq (.block 3 (.region [vM 20 3,
 vM 21 4,
 vP 22 (.bin .mul (vi 64) (.s 21)),
 vM 23 5,
 vN 24 79 [(.s 23)],
 vP 25 (vb .add 22 24),
 vP 26 (.bs 3 1 1 [(.int .i64 0)] [(0, (.s 25))]),
 vP 27 (.app 3 1 8 (.s 20) (.s 26)),
 vM 3 27]))
 (.region [vM 16 5,
 vM 17 5,
 vP 18 (.bin .sub (.s 17) (.c (.int .u64 1))),
 vP 19 (vb .and 16 18),
 vM 5 19]))
def k54l1 : Cd :=
  .seq (.region [vP 11 (vc .lss 10 33)])
 (.seq (.cond (.s 11) (.skip)
 (.exit 0))
 (.seq (.block 1 (.seq (.region [vM 12 10,
 vP 13 (.ixa false 1 33 (.s 9) (.s 10)),
 vM 4 12,
 vM 5 13])
 (.block 2 (.loop k54l0))))
 (.region [vP 28 (vc .add 10 1),
 vM 10 28])))
def k54 : Cd :=
  .seq (.region [vP 2 (.mv (.c (.slice none 0 0)))])
 (.seq (.region [vP 3 (.mv (.c (.slice none 0 0)))])
 (.seq (.seq (.region [vM 6 0,
 vP 7 (.nc (.s 6)),
 vF 8 7 0,
 vP 9 (.ld true 33 (.s 8)),
 vP 10 (.mv (vi 0))])
 (.block 0 (.loop k54l1)))
 (.seq (.region [vM 29 3,
 vM 2 29])
 (.ret))))
def k55l0 : Cd :=
  .seq (.region [vP 9 (vb .lss 8 7)])
 (.seq (.cond (.s 9) (.skip)
 (.exit 0))
 (.seq (.block 1 (.seq (.region [vI 10 5 6 8,
 vP 11 (.ld true 5 (.s 10)),
 vP 5 (.alloc 45 [(.int .i64 0), (.int .i64 0), (.int .i64 0), (.int .i64 0), (.int .i64 0)]),
 ⟨none, none, .inl (.st 5 (.s 5) (.s 11))⟩])
 (.draw [vD (vM 12 3) 0,
 vD (vF 13 5 0) 0,
 vD (vL 14 1 13) 2,
 vD (vN 15 31 [(.s 12), (.s 14)]) 7,
 vD (vF 16 5 1) 0,
 vD (vL 17 1 16) 16,
 vD (vN 18 31 [(.s 15), (.s 17)]) 63,
 vD (vM 3 18) 127])))
 (.region [vP 19 (vc .add 8 1),
 vM 8 19])))
def k55 : Cd :=
  .seq (.region [vP 2 (.mv (.c (.slice none 0 0)))])
 (.seq (.region [vP 3 (.mv (.c (.slice none 0 0)))])
 (.seq (.seq (.region [vM 6 0,
 vP 7 (.len (.s 6)),
 vP 8 (.mv (vi 0))])
 (.block 0 (.loop k55l0)))
 (.seq (.region [vM 20 3,
 vM 2 20])
 (.ret))))
def k56l0 : Cd :=
  .seq (.region [vP 10 (vb .lss 9 8)])
 (.seq (.cond (.s 10) (.skip)
 (.exit 0))
 (.seq (.block 1 (.seq (.region [vI 11 5 7 9,
 vP 12 (.ld true 5 (.s 11)),
 vP 6 (.alloc 45 [(.int .i64 0), (.int .i64 0), (.int .i64 0), (.int .i64 0), (.int .i64 0)]),
 ⟨none, none, .inl (.st 5 (.s 6) (.s 12))⟩])
 (.draw [vD (vM 13 0) 0,
 vD (vF 14 6 0) 0,
 vD (vL 15 1 14) 2,
 vD (vN 16 31 [(.s 13), (.s 15)]) 7,
 vD (vF 17 6 1) 0,
 vD (vL 18 1 17) 16,
 vD (vN 19 31 [(.s 16), (.s 18)]) 63,
 vD (vM 0 19) 127])))
 (.region [vP 20 (vc .add 9 1),
 vM 9 20])))
def k56 : Cd :=
  .seq (.region [vP 4 (.mv (.c (.slice none 0 0)))])
 (.seq (.seq (.region [vM 7 1,
 vP 8 (.len (.s 7)),
 vP 9 (.mv (vi 0))])
 (.block 0 (.loop k56l0)))
 (.seq (.region [vM 21 0,
 vM 4 21])
 (.ret)))
def k57 : Cd :=
  .seq (.region [vP 2 (.mv (.c (.slice none 0 0)))])
 (.seq (.region [vM 3 0,
 vN 4 28 [(.s 3)]])
 (.seq (.region [vM 5 0,
 vN 6 29 [(.s 5)],
 vM 2 6])
 (.ret)))
def k58l0 : Cd :=
  .block 1 (.seq (.region [vM 19 2,
 vM 20 1,
 vP 21 (vb .sub 19 20),
 vM 10 21])
 (.seq (.seq (.region [vM 22 10,
 vP 23 (vc .leq 22 12)])
 (.cond (.s 23) (.seq (.region [vM 24 0,
 vM 25 1,
 vM 26 2,
 vN 27 80 [(.s 24), (.s 25), (.s 26)]])
 (.ret))
 (.skip)))
 (.seq (.seq (.region [vM 28 3,
 vP 29 (vc .eql 28 0)])
 (.cond (.s 29) (.seq (.region [vM 30 0,
 vM 31 1,
 vM 32 2,
 vN 33 81 [(.s 30), (.s 31), (.s 32)]])
 (.ret))
 (.skip)))
 (.seq (.seq (.region [vM 34 8,
 vP 35 (.not (.s 34))])
 (.cond (.s 35) (.seq (.region [vM 36 0,
 vM 37 1,
 vM 38 2,
 vN 39 82 [(.s 36), (.s 37), (.s 38)]])
 (.region [vM 40 3,
 vP 41 (vc .sub 40 1),
 vM 3 41]))
 (.skip)))
 (.seq (.region [vM 43 0,
 vM 44 1,
 vM 45 2,
 vN 46 83 [(.s 43), (.s 44), (.s 45)],
 vM 42 46,
 vP 47 (.ex (.s 42) 0),
 vP 48 (.ex (.s 42) 1),
 vM 11 47,
 vM 12 48])
 (.seq (.seq (.region [vM 49 12,
 vP 50 (vc .eql 49 2)])
 (.cond (.s 50) (.seq (.region [vM 51 0,
 vM 52 1,
 vM 53 2,
 vN 54 84 [(.s 51), (.s 52), (.s 53)]])
 (.seq (.region [vM 55 2,
 vP 56 (vc .sub 55 1),
 vM 57 11,
 vM 58 1,
 vP 59 (vb .sub 57 58),
 vP 60 (vb .sub 56 59),
 vM 11 60])
 (.region [vP 12 (.mv (vi 1))])))
 (.skip)))
 (.seq (.seq (.region [vM 61 8,
 vM 62 61,
 vT 62 63 (.mv (.s 9)),
 vP 64 (.pick (.s 62) (.s 63) (.c (.bool false))),
 vM 65 64,
 vT 65 66 (.mv (.s 12)),
 vT 65 67 (vc .eql 66 1),
 vP 68 (.pick (.s 65) (.s 67) (.c (.bool false)))])
 (.cond (.s 68) (.seq (.region [vM 69 0,
 vM 70 1,
 vM 71 2,
 vN 72 85 [(.s 69), (.s 70), (.s 71)]])
 (.cond (.s 72) (.ret)
 (.skip)))
 (.skip)))
 (.seq (.seq (.draw [vD (vM 73 1) 0,
 vD (vP 74 (vc .gtr 73 0)) 1,
 vD (vM 75 74) 3,
 vD (vT 75 76 (.mv (.s 0))) 7,
 vD (vT 75 77 (.mv (.s 1))) 7,
 vD (vT 75 78 (vc .sub 77 1)) 23,
 vD (vT 75 79 (.ias 1 (.s 76) (.s 78))) 63,
 vD (vT 75 80 (.ld false 1 (.s 79))) 127,
 vD (vT 75 81 (.mv (.s 0))) 7,
 vD (vT 75 82 (.mv (.s 11))) 7,
 vD (vT 75 83 (.ias 1 (.s 81) (.s 82))) 775,
 vD (vT 75 84 (.ld false 1 (.s 83))) 1799,
 ⟨⟨some (75, true), some 85, .inr (.fn 86 [(.s 80), (.s 84)])⟩, some [], [], 4095, false⟩,
 vD (vT 75 86 (.not (.s 85))) 8191,
 vD (vP 87 (.pick (.s 75) (.s 86) (.c (.bool false)))) 16383])
 (.cond (.s 87) (.seq (.region [vM 88 0,
 vM 89 1,
 vM 90 2,
 vM 91 11,
 vN 92 87 [(.s 88), (.s 89), (.s 90), (.s 91)],
 vM 13 92])
 (.seq (.region [vM 93 13,
 vM 1 93])
 (.exit 1)))
 (.skip)))
 (.seq (.region [vM 95 0,
 vM 96 1,
 vM 97 2,
 vM 98 11,
 vN 99 88 [(.s 95), (.s 96), (.s 97), (.s 98)],
 vM 94 99,
 vP 100 (.ex (.s 94) 0),
 vP 101 (.ex (.s 94) 1),
 vM 14 100,
 vM 15 101])
 (.seq (.region [vM 102 15,
 vM 9 102])
 (.seq (.region [vM 103 14,
 vM 104 1,
 vP 105 (vb .sub 103 104),
 vM 106 2,
 vM 107 14,
 vP 108 (vb .sub 106 107),
 vM 16 105,
 vM 17 108])
 (.seq (.region [vM 109 10,
 vP 110 (vc .quo 109 8),
 vM 18 110])
 (.seq (.region [vM 111 16,
 vM 112 17,
 vP 113 (vb .lss 111 112)])
 (.cond (.s 113) (.seq (.region [vM 114 16,
 vM 115 18,
 vP 116 (vb .geq 114 115),
 vM 8 116])
 (.seq (.region [vM 117 0,
 vM 118 1,
 vM 119 14,
 vM 120 3,
 vN 121 58 [(.s 117), (.s 118), (.s 119), (.s 120)]])
 (.region [vM 122 14,
 vP 123 (vc .add 122 1),
 vM 1 123])))
 (.seq (.region [vM 124 17,
 vM 125 18,
 vP 126 (vb .geq 124 125),
 vM 8 126])
 (.seq (.region [vM 127 0,
 vM 128 14,
 vP 129 (vc .add 128 1),
 vM 130 2,
 vM 131 3,
 vN 132 58 [(.s 127), (.s 129), (.s 130), (.s 131)]])
 (.region [vM 133 14,
 vM 2 133])))))))))))))))))
def k58 : Cd :=
  .seq (.region [vP 8 (.mv (.c (.bool true)))])
 (.seq (.region [vP 9 (.mv (.c (.bool true)))])
 (.block 0 (.loop k58l0)))
def k59 : Cd :=
  .seq (.region [vP 2 (.mv (vi 0))])
 (.seq (.cond (.c (.bool false)) (.seq (.region [vM 3 0,
 vP 4 (.cvi .u32 (.s 3)),
 vN 5 89 [(.s 4)],
 vM 2 5])
 (.ret))
 (.skip))
 (.seq (.region [vM 6 0,
 vN 7 90 [(.s 6)],
 vM 2 7])
 (.ret)))
def k60l0 : Cd :=
  .seq (.region [vP 9 (vb .lss 8 7)])
 (.seq (.cond (.s 9) (.skip)
 (.exit 0))
 (.seq (.block 1 (.seq (.region [vI 10 5 6 8,
 vP 11 (.ld true 5 (.s 10)),
 vP 5 (.alloc 45 [(.int .i64 0), (.int .i64 0), (.int .i64 0), (.int .i64 0), (.int .i64 0)]),
 ⟨none, none, .inl (.st 5 (.s 5) (.s 11))⟩])
 (.region [vM 12 3,
 vF 13 5 4,
 vL 14 1 13,
 vN 15 31 [(.s 12), (.s 14)],
 vM 3 15])))
 (.region [vP 16 (vc .add 8 1),
 vM 8 16])))
def k60 : Cd :=
  .seq (.region [vP 2 (.mv (.c (.slice none 0 0)))])
 (.seq (.region [vP 3 (.mv (.c (.slice none 0 0)))])
 (.seq (.seq (.region [vM 6 0,
 vP 7 (.len (.s 6)),
 vP 8 (.mv (vi 0))])
 (.block 0 (.loop k60l0)))
 (.seq (.region [vM 17 3,
 vM 2 17])
 (.ret))))
def k61 : Cd :=
  .seq (.region [vP 2 (.box 25 2 (.s 0)),
 vP 3 (.box 94 1 (.s 1))])
 (.seq (.region [vP 4 (.alloc 124 [.nilFunc])])
 (.seq (.region [vP 5 (.mkf (.func 91) [] [(.s 2), (.s 3), (.s 4)]),
 ⟨none, none, .inl (.st 1 (.s 4) (.s 5))⟩])
 (.region [vL 6 1 4,
 ⟨none, some 7, .inr (.val false (.s 6) [(.c (.slice none 0 0))])⟩])))
def k62 : Cd :=
  .seq (.region [vP 5 (.mv (.c (.bool false)))])
 (.seq (.region [vL 6 1 2,
 vM 7 0,
 vP 8 (.bs 33 1 1 [(.slice none 0 0)] [(0, (.s 7))]),
 vP 9 (.app 33 1 24 (.s 6) (.s 8)),
 ⟨none, none, .inl (.st 1 (.s 2) (.s 9))⟩])
 (.seq (.region [vP 5 (.mv (.c (.bool true)))])
 (.ret)))
def k63 : Cd :=
  .seq (.region [vP 3 (.box 25 2 (.s 0)),
 vP 6 (.mv (vi 0))])
 (.seq (.seq (.region [vP 9 (.ld true 2 (.s 3)),
 vN 10 7 [(.s 9)],
 vM 7 10])
 (.seq (.region [vM 11 7,
 vP 12 (vc .neq 11 0)])
 (.cond (.s 12) (.seq (.region [vM 13 7,
 vM 6 13])
 (.ret))
 (.skip))))
 (.seq (.region [vP 14 (.ld true 2 (.s 3)),
 vN 15 24 [(.s 14)],
 vM 8 15])
 (.seq (.seq (.region [vM 16 8,
 vM 17 1,
 vN 18 94 [(.s 16), (.s 17)],
 vP 19 (.not (.s 18)),
 vM 20 19,
 vU 20 21 (.mv (.s 8)),
 vU 20 22 (.mv (.s 2)),
 ⟨some (20, false), some 23, .inr (.fn 94 [(.s 21), (.s 22)])⟩,
 vU 20 24 (.not (.s 23)),
 vP 25 (.pick (.s 20) (.c (.bool true)) (.s 24))])
 (.cond (.s 25) (.seq (.region [vP 6 (.mv (vi 3))])
 (.ret))
 (.skip)))
 (.seq (.region [vP 6 (.mv (vi 0))])
 (.ret)))))
def k64 : Cd :=
  .seq (.region [vP 7 (.mv (.c (.bool false)))])
 (.seq (.region [vM 9 1,
 vL 10 1 2,
 vL 11 1 3,
 vN 12 65 [(.s 9), (.s 10), (.s 11)],
 vP 8 (.alloc 68 [(.int .i64 0), (.int .i64 0)]),
 ⟨none, none, .inl (.st 2 (.s 8) (.s 12))⟩])
 (.seq (.region [vL 13 1 4,
 vP 14 (.ld true 2 (.s 8)),
 vP 15 (.bs 68 2 1 [(.int .i64 0), (.int .i64 0)] [(0, (.s 14))]),
 vP 16 (.app 68 2 16 (.s 13) (.s 15)),
 ⟨none, none, .inl (.st 1 (.s 4) (.s 16))⟩])
 (.seq (.region [vL 17 1 2,
 vL 18 1 3,
 vP 19 (vb .neq 17 18),
 vM 20 19,
 vT 20 21 (.ld true 2 (.s 8)),
 vT 20 22 (.ld true 2 (.g 0)),
 vT 20 23 (.eq true (.cells [.int, .int]) (.s 21) (.s 22)),
 vP 24 (.pick (.s 20) (.s 23) (.c (.bool false))),
 vM 7 24])
 (.ret))))
def k65 : Cd :=
  .seq (.region [vP 6 (.alloc 68 [(.int .i64 0), (.int .i64 0)])])
 (.seq (.seq (.region [vM 10 1,
 vM 11 2,
 vP 12 (vb .eql 10 11)])
 (.cond (.s 12) (.seq (.region [vP 13 (.bld [(.int .i64 0), (.int .i64 0)] []),
 ⟨none, none, .inl (.st 2 (.s 6) (.s 13))⟩])
 (.ret))
 (.skip)))
 (.seq (.region [vM 15 0,
 vM 16 1,
 vM 17 2,
 vN 18 95 [(.s 15), (.s 16), (.s 17)],
 vM 14 18,
 vP 19 (.ex (.s 14) 0),
 vP 20 (.ex (.s 14) 1),
 vP 21 (.ex (.s 14) 2),
 vM 7 19,
 vM 8 20,
 vM 9 21])
 (.seq (.seq (.region [vM 22 9,
 vP 23 (vc .neq 22 0)])
 (.cond (.s 23) (.seq (.region [vP 24 (.ld true 2 (.g 0)),
 ⟨none, none, .inl (.st 2 (.s 6) (.s 24))⟩])
 (.ret))
 (.skip)))
 (.seq (.region [vM 25 7,
 vM 26 8,
 vP 27 (.bld [(.int .i64 0), (.int .i64 0)] [(0, 1, (.s 25)), (1, 1, (.s 26))]),
 ⟨none, none, .inl (.st 2 (.s 6) (.s 27))⟩])
 (.ret)))))
def k66l0 : Cd :=
  .seq (.region [vP 12 (vb .lss 11 10)])
 (.seq (.cond (.s 12) (.skip)
 (.exit 0))
 (.seq (.block 1 (.seq (.region [vI 13 2 9 11,
 vP 14 (.ld true 2 (.s 13)),
 vP 5 (.alloc 68 [(.int .i64 0), (.int .i64 0)]),
 ⟨none, none, .inl (.st 2 (.s 5) (.s 14))⟩])
 (.seq (.region [vM 15 3,
 vP 16 (.len (.s 15)),
 vP 17 (vc .sub 16 1),
 vM 6 17])
 (.seq (.draw [vD (vM 18 6) 0,
 vD (vP 19 (vc .geq 18 0)) 1,
 vD (vM 20 19) 3,
 vD (vT 20 21 (.fa (.s 5) 0)) 7,
 vD (vT 20 22 (.ld false 1 (.s 21))) 15,
 vD (vT 20 23 (.mv (.s 3))) 7,
 vD (vT 20 24 (.mv (.s 6))) 7,
 vD (vT 20 25 (.ias 2 (.s 23) (.s 24))) 103,
 vD (vT 20 26 (.fa (.s 25) 1)) 231,
 vD (vT 20 27 (.ld false 1 (.s 26))) 487,
 vD (vT 20 28 (vc .add 27 1)) 999,
 vD (vT 20 29 (vb .leq 22 28)) 2047,
 vD (vP 30 (.pick (.s 20) (.s 29) (.c (.bool false)))) 4095])
 (.cond (.s 30) (.draw [vD (vM 31 3) 0,
 vD (vM 32 6) 0,
 vD (vM 33 3) 0,
 vD (vM 34 6) 0,
 vD (vI 35 2 33 34) 12,
 vD (vF 36 35 1) 28,
 vD (vL 37 1 36) 60,
 vD (vF 38 5 1) 0,
 vD (vL 39 1 38) 128,
 vD (vP 40 (.mm true (.s 37) (.s 39))) 508,
 vD (vI 41 2 31 32) 1023,
 vD (vF 42 41 1) 2047,
 ⟨⟨none, none, .inl (.st 1 (.s 42) (.s 40))⟩, (some [.at 3]), [], 4095, false⟩])
 (.region [vM 43 3,
 vP 44 (.ld true 2 (.s 5)),
 vP 45 (.bs 68 2 1 [(.int .i64 0), (.int .i64 0)] [(0, (.s 44))]),
 vP 46 (.app 68 2 16 (.s 43) (.s 45)),
 vM 3 46]))))))
 (.region [vP 47 (vc .add 11 1),
 vM 11 47])))
def k66 : Cd :=
  .seq (.region [vP 2 (.mv (.c (.slice none 0 0)))])
 (.seq (.region [vM 7 0,
 vN 8 96 [(.s 7), (.f 97)]])
 (.seq (.region [vP 3 (.mv (.c (.slice none 0 0)))])
 (.seq (.seq (.region [vM 9 0,
 vP 10 (.len (.s 9)),
 vP 11 (.mv (vi 0))])
 (.block 0 (.loop k66l0)))
 (.seq (.region [vM 48 3,
 vM 2 48])
 (.ret)))))
def k67 : Cd :=
  .seq (.region [vP 6 (.mv (vi 0))])
 (.seq (.seq (.region [vM 8 0,
 vP 9 (.len (.s 8)),
 vP 10 (vc .eql 9 0),
 vM 11 10,
 vU 11 12 (.mv (.s 2)),
 vU 11 13 (vc .lss 12 1),
 vP 14 (.pick (.s 11) (.c (.bool true)) (.s 13))])
 (.cond (.s 14) (.seq (.region [vP 6 (.mv (vi 0))])
 (.ret))
 (.skip)))
 (.seq (.region [vM 15 0,
 vM 16 1,
 vM 17 0,
 vP 18 (.len (.s 17)),
 vP 19 (vb .rem 16 18),
 vI 20 1 15 19,
 vL 21 1 20,
 vM 22 2,
 vP 23 (vb .rem 21 22),
 vM 7 23])
 (.seq (.seq (.region [vM 24 7,
 vP 25 (vc .lss 24 0)])
 (.cond (.s 25) (.region [vM 26 7,
 vM 27 2,
 vP 28 (vb .add 26 27),
 vM 7 28])
 (.skip)))
 (.seq (.region [vM 29 7,
 vM 6 29])
 (.ret)))))
def k68l0 : Cd :=
  .seq (.region [vP 12 (vb .lss 11 10)])
 (.seq (.cond (.s 12) (.skip)
 (.exit 0))
 (.seq (.block 1 (.seq (.region [vI 13 1 9 11,
 vL 14 1 13,
 vM 5 14])
 (.seq (.region [vM 15 3,
 vM 16 5,
 vP 17 (.len (.s 16)),
 vP 18 (vb .add 15 17),
 vM 3 18])
 (.seq (.region [vM 19 3,
 vP 20 (vc .lss 19 0)])
 (.cond (.s 20) (.region [⟨none, some 21, .inl (.mki 9 (.c (.string ⟨#[108, 101, 110, 32, 111, 117, 116, 32, 111, 102, 32, 114, 97, 110, 103, 101]⟩)))⟩,
 ⟨none, none, .inr (.pan (.s 21))⟩])
 (.skip))))))
 (.region [vP 22 (vc .add 11 1),
 vM 11 22])))
def k68l1 : Cd :=
  .seq (.region [vP 28 (vb .lss 27 26)])
 (.seq (.cond (.s 28) (.skip)
 (.exit 2))
 (.seq (.block 3 (.seq (.region [vI 29 1 25 27,
 vL 30 1 29,
 vM 8 30])
 (.region [vM 31 6,
 vM 32 8,
 vP 33 (.app 3 1 8 (.s 31) (.s 32)),
 vM 6 33])))
 (.region [vP 34 (vc .add 27 1),
 vM 27 34])))
def k68 : Cd :=
  .seq (.region [vP 2 (.mv (.c (.slice none 0 0)))])
 (.seq (.region [vP 3 (.mv (vi 0))])
 (.seq (.seq (.region [vM 9 0,
 vP 10 (.len (.s 9)),
 vP 11 (.mv (vi 0))])
 (.block 0 (.loop k68l0)))
 (.seq (.region [vM 23 3,
 vN 24 99 [(.c (.slice none 0 0)), (.s 23)],
 vM 6 24])
 (.seq (.seq (.region [vM 25 0,
 vP 26 (.len (.s 25)),
 vP 27 (.mv (vi 0))])
 (.block 2 (.loop k68l1)))
 (.seq (.region [vM 35 6,
 vM 2 35])
 (.ret))))))
def k69 : Cd :=
  .seq (.region [vP 4 (.mv (.c (.slice none 0 0))),
 vP 5 (.mv (vi 0))])
 (.seq (.seq (.region [vM 9 0,
 vN 10 22 [(.s 9)],
 vM 6 10])
 (.seq (.region [vM 11 6,
 vP 12 (vc .neq 11 0)])
 (.cond (.s 12) (.seq (.region [vM 13 6,
 vP 4 (.mv (.c (.slice none 0 0))),
 vM 5 13])
 (.ret))
 (.skip))))
 (.seq (.region [vM 15 0,
 vN 16 101 [(.s 15), (.f 102)],
 vN 17 100 [(.s 16)],
 vM 14 17,
 vP 18 (.ex (.s 14) 0),
 vP 19 (.ex (.s 14) 1),
 vP 7 (.alloc 136 [(.slice none 0 0), (.slice none 0 0)]),
 ⟨none, none, .inl (.st 2 (.s 7) (.s 18))⟩,
 vM 8 19])
 (.seq (.seq (.region [vM 20 8,
 vP 21 (.not (.s 20))])
 (.cond (.s 21) (.seq (.region [vP 4 (.mv (.c (.slice none 0 0))),
 vP 5 (.mv (vi 25))])
 (.ret))
 (.skip)))
 (.seq (.region [vP 22 (.ld true 2 (.s 7)),
 vN 23 103 [(.s 22)],
 vM 24 1,
 vN 25 104 [(.s 23), (.s 24)],
 vM 4 25,
 vP 5 (.mv (vi 0))])
 (.ret)))))
def k70l0 : Cd :=
  .seq (.region [vP 15 (vb .lss 14 13)])
 (.seq (.cond (.s 15) (.skip)
 (.exit 0))
 (.seq (.block 1 (.seq (.region [vI 16 1 12 14,
 vL 17 1 16,
 vM 8 17])
 (.region [vM 18 6,
 vM 19 8,
 vM 20 5,
 vM 21 8,
 vP 22 (.lk .int (.int .i64 0) false (.s 20) (.s 21)),
 vP 23 (.bld [(.int .i64 0), (.int .i64 0)] [(0, 1, (.s 19)), (1, 1, (.s 22))]),
 vP 24 (.bs 71 2 1 [(.int .i64 0), (.int .i64 0)] [(0, (.s 23))]),
 vP 25 (.app 71 2 16 (.s 18) (.s 24)),
 vM 6 25])))
 (.region [vP 26 (vc .add 14 1),
 vM 14 26])))
def k70 : Cd :=
  .seq (.region [vP 2 (.box 25 2 (.s 0)),
 vP 4 (.mv (.c (.slice none 0 0)))])
 (.seq (.region [vM 9 1,
 vN 10 105 [(.s 9)],
 vM 5 10])
 (.seq (.region [vP 6 (.mv (.c (.slice none 0 0)))])
 (.seq (.seq (.region [vP 11 (.ld true 2 (.s 2)),
 vN 12 24 [(.s 11)],
 vP 13 (.len (.s 12)),
 vP 14 (.mv (vi 0))])
 (.block 0 (.loop k70l0)))
 (.seq (.region [vM 27 6,
 vM 4 27])
 (.ret)))))
def k71l0 : Cd :=
  .region [vM 8 26]
def k71l1 : Cd :=
  .block 1 (.seq (.region [vP 27 (.ld true 2 (.s 6)),
 vM 28 8,
 vN 29 109 [(.s 27), (.s 28)]])
 (.cond (.s 29) (.region [vF 30 6 1,
 vL 31 1 30,
 vM 32 8,
 ⟨none, none, .inl (.upd .int (.s 31) (.s 32) (.c (.bool false)))⟩])
 (.skip)))
def k71 : Cd :=
  .seq (.region [vP 2 (.mv (.c (.slice none 0 0))),
 vP 3 (.mv (vi 0))])
 (.seq (.seq (.region [vM 9 0,
 vN 10 22 [(.s 9)],
 vM 4 10])
 (.seq (.region [vM 11 4,
 vP 12 (vc .neq 11 0)])
 (.cond (.s 12) (.seq (.region [vM 13 4,
 vP 2 (.mv (.c (.slice none 0 0))),
 vM 3 13])
 (.ret))
 (.skip))))
 (.seq (.region [vM 14 0,
 vN 15 27 [(.s 14)],
 vM 5 15])
 (.seq (.region [vM 16 0,
 vM 17 5,
 vN 18 106 [(.s 17)],
 vP 19 (.bld [(.slice none 0 0), (.map none)] [(0, 1, (.s 16)), (1, 1, (.s 18))]),
 vP 6 (.alloc 151 [(.slice none 0 0), (.map none)]),
 ⟨none, none, .inl (.st 2 (.s 6) (.s 19))⟩])
 (.seq (.seq (.region [vP 20 (.ld true 2 (.s 6)),
 vN 21 107 [(.s 20)],
 vP 22 (.not (.s 21))])
 (.cond (.s 22) (.seq (.region [vP 2 (.mv (.c (.slice none 0 0))),
 vP 3 (.mv (vi 4))])
 (.ret))
 (.skip)))
 (.seq (.seq (.region [vM 23 5,
 vN 24 108 [(.s 23)]])
 (.block 0 (.rangeF (.s 24) [25, 26] k71l0 k71l1)))
 (.seq (.region [vM 33 5,
 vP 34 (.mkf (.func 111) [] [(.s 6)]),
 vN 35 110 [(.s 33), (.s 34)],
 vM 2 35,
 vP 3 (.mv (vi 0))])
 (.ret)))))))
def k78 : Cd :=
  .draw [vD (vM 4 0) 0,
 vD (vM 5 1) 0,
 vD (vP 6 (vc .quo 5 64)) 2,
 vD (vP 7 (.nc (.s 4))) 1,
 vD (vF 8 7 0) 9,
 vD (vP 9 (.iaa 33 1 (.s 8) (.s 6))) 31,
 vD (vL 10 1 9) 63,
 vD (vM 11 1) 0,
 vD (vP 12 (vc .rem 11 64)) 128,
 vD (vP 13 (.bin .shl (.c (.int .u64 1)) (.s 12))) 384,
 vD (vP 14 (vb .or 10 13)) 1023,
 vD (vP 15 (.nc (.s 4))) 1,
 vD (vF 16 15 0) 2049,
 vD (vP 17 (.iaa 33 1 (.s 16) (.s 6))) 8191,
 ⟨⟨none, none, .inl (.st 1 (.s 17) (.s 14))⟩, (some [.at 0]), [], 16383, false⟩]
def k79 : Cd :=
  .seq (.region [vP 2 (.mv (vi 0))])
 (.seq (.seq (.region [vM 3 0,
 vP 4 (.bin .eql (.s 3) (.c (.int .u64 0)))])
 (.cond (.s 4) (.seq (.region [vP 2 (.mv (vi 64))])
 (.ret))
 (.skip)))
 (.seq (.region [vM 5 0,
 vM 6 0,
 vP 7 (.neg (.s 6)),
 vP 8 (vb .and 5 7),
 vP 9 (.bin .mul (.s 8) (.c (.int .u64 285870213051353865))),
 vP 10 (.bin .shr (.s 9) (.c (.int .u64 58))),
 vP 11 (.iaa 64 1 (.g 1) (.s 10)),
 vL 12 1 11,
 vP 13 (.cvi .i64 (.s 12)),
 vM 2 13])
 (.ret)))
def k80l0 : Cd :=
  .seq (.seq (.draw [vD (vM 16 7) 0,
 vD (vM 17 1) 0,
 vD (vP 18 (vb .gtr 16 17)) 3,
 vD (vM 19 18) 7,
 vD (vT 19 20 (.mv (.s 0))) 15,
 vD (vT 19 21 (.mv (.s 7))) 15,
 vD (vT 19 22 (.ias 1 (.s 20) (.s 21))) 63,
 vD (vT 19 23 (.ld false 1 (.s 22))) 127,
 vD (vT 19 24 (.mv (.s 0))) 15,
 vD (vT 19 25 (.mv (.s 7))) 15,
 vD (vT 19 26 (vc .sub 25 1)) 527,
 vD (vT 19 27 (.ias 1 (.s 24) (.s 26))) 1807,
 vD (vT 19 28 (.ld false 1 (.s 27))) 3855,
 ⟨⟨some (19, true), some 29, .inr (.fn 86 [(.s 23), (.s 28)])⟩, some [], [], 8191, false⟩,
 vD (vP 30 (.pick (.s 19) (.s 29) (.c (.bool false)))) 16383])
 (.cond (.s 30) (.skip)
 (.exit 2)))
 (.seq (.block 3 (.draw [vD (vM 33 0) 0,
 vD (vM 34 7) 0,
 vD (vM 35 0) 0,
 vD (vM 36 7) 0,
 vD (vP 37 (vc .sub 36 1)) 8,
 vD (vM 38 0) 0,
 vD (vM 39 7) 0,
 vD (vP 40 (vc .sub 39 1)) 64,
 vD (vI 41 1 38 40) 224,
 vD (vL 42 1 41) 480,
 vD (vM 43 0) 0,
 vD (vM 44 7) 0,
 vD (vI 45 1 43 44) 3072,
 vD (vL 46 1 45) 7168,
 vD (vI 47 1 33 34) 16355,
 ⟨⟨none, none, .inl (.st 1 (.s 47) (.s 42))⟩, (some [.at 0]), [], 32739, false⟩,
 vD (vI 48 1 35 37) 65535,
 ⟨⟨none, none, .inl (.st 1 (.s 48) (.s 46))⟩, (some [.at 0]), [], 131071, false⟩]))
 (.region [vM 31 7,
 vP 32 (vc .sub 31 1),
 vM 7 32]))
def k80l1 : Cd :=
  .seq (.seq (.region [vM 10 6,
 vM 11 2,
 vP 12 (vb .lss 10 11)])
 (.cond (.s 12) (.skip)
 (.exit 0)))
 (.seq (.block 1 (.seq (.region [vM 15 6,
 vM 7 15])
 (.block 2 (.loop k80l0))))
 (.region [vM 13 6,
 vP 14 (vc .add 13 1),
 vM 6 14]))
def k80 : Cd :=
  .seq (.region [vM 8 1,
 vP 9 (vc .add 8 1),
 vM 6 9])
 (.block 0 (.loop k80l1))
def k81l0 : Cd :=
  .seq (.seq (.region [vM 18 9,
 vP 19 (vc .geq 18 0)])
 (.cond (.s 19) (.skip)
 (.exit 0)))
 (.seq (.block 1 (.region [vM 22 0,
 vM 23 9,
 vM 24 8,
 vM 25 6,
 vN 26 114 [(.s 22), (.s 23), (.s 24), (.s 25)]]))
 (.region [vM 20 9,
 vP 21 (vc .sub 20 1),
 vM 9 21]))
def k81l1 : Cd :=
  .seq (.seq (.region [vM 29 10,
 vP 30 (vc .geq 29 0)])
 (.cond (.s 30) (.skip)
 (.exit 2)))
 (.seq (.block 3 (.seq (.draw [vD (vM 33 0) 0,
 vD (vM 34 6) 0,
 vD (vM 35 0) 0,
 vD (vM 36 6) 0,
 vD (vM 37 10) 0,
 vD (vP 38 (vb .add 36 37)) 24,
 vD (vM 39 0) 0,
 vD (vM 40 6) 0,
 vD (vM 41 10) 0,
 vD (vP 42 (vb .add 40 41)) 384,
 vD (vI 43 1 39 42) 960,
 vD (vL 44 1 43) 1984,
 vD (vM 45 0) 0,
 vD (vM 46 6) 0,
 vD (vI 47 1 45 46) 12288,
 vD (vL 48 1 47) 28672,
 vD (vI 49 1 33 34) 65475,
 ⟨⟨none, none, .inl (.st 1 (.s 49) (.s 44))⟩, (some [.at 0]), [], 131011, false⟩,
 vD (vI 50 1 35 38) 262143,
 ⟨⟨none, none, .inl (.st 1 (.s 50) (.s 48))⟩, (some [.at 0]), [], 524287, false⟩])
 (.region [vM 51 0,
 vM 52 7,
 vM 53 10,
 vM 54 6,
 vN 55 114 [(.s 51), (.s 52), (.s 53), (.s 54)]])))
 (.region [vM 31 10,
 vP 32 (vc .sub 31 1),
 vM 10 32]))
def k81 : Cd :=
  .seq (.region [vM 11 1,
 vM 6 11])
 (.seq (.region [vP 7 (.mv (vi 0))])
 (.seq (.region [vM 12 2,
 vM 13 1,
 vP 14 (vb .sub 12 13),
 vM 8 14])
 (.seq (.seq (.region [vM 15 8,
 vP 16 (vc .sub 15 1),
 vP 17 (vc .quo 16 2),
 vM 9 17])
 (.block 0 (.loop k81l0)))
 (.seq (.region [vM 27 8,
 vP 28 (vc .sub 27 1),
 vM 10 28])
 (.block 2 (.loop k81l1))))))
def k82l0 : Cd :=
  .seq (.seq (.region [vM 26 9,
 vM 27 1,
 vM 28 6,
 vP 29 (vc .quo 28 4),
 vP 30 (vc .mul 29 2),
 vP 31 (vb .add 27 30),
 vP 32 (vc .add 31 1),
 vP 33 (vb .leq 26 32)])
 (.cond (.s 33) (.skip)
 (.exit 0)))
 (.seq (.block 1 (.seq (.region [vN 36 116 [(.s 7)],
 vM 37 8,
 vP 38 (.bin .sub (.s 37) (.c (.int .u64 1))),
 vP 39 (vb .and 36 38),
 vP 40 (.cvi .i64 (.s 39)),
 vM 10 40])
 (.seq (.seq (.region [vM 41 10,
 vM 42 6,
 vP 43 (vb .geq 41 42)])
 (.cond (.s 43) (.region [vM 44 10,
 vM 45 6,
 vP 46 (vb .sub 44 45),
 vM 10 46])
 (.skip)))
 (.draw [vD (vM 47 0) 0,
 vD (vM 48 9) 0,
 vD (vM 49 0) 0,
 vD (vM 50 1) 0,
 vD (vM 51 10) 0,
 vD (vP 52 (vb .add 50 51)) 24,
 vD (vM 53 0) 0,
 vD (vM 54 1) 0,
 vD (vM 55 10) 0,
 vD (vP 56 (vb .add 54 55)) 384,
 vD (vI 57 1 53 56) 960,
 vD (vL 58 1 57) 1984,
 vD (vM 59 0) 0,
 vD (vM 60 9) 0,
 vD (vI 61 1 59 60) 12288,
 vD (vL 62 1 61) 28672,
 vD (vI 63 1 47 48) 65475,
 ⟨⟨none, none, .inl (.st 1 (.s 63) (.s 58))⟩, (some [.at 0]), [], 131011, false⟩,
 vD (vI 64 1 49 52) 262143,
 ⟨⟨none, none, .inl (.st 1 (.s 64) (.s 62))⟩, (some [.at 0]), [], 524287, false⟩]))))
 (.region [vM 34 9,
 vP 35 (vc .add 34 1),
 vM 9 35]))
def k82 : Cd :=
  .seq (.region [vM 11 2,
 vM 12 1,
 vP 13 (vb .sub 11 12),
 vM 6 13])
 (.seq (.region [vM 14 6,
 vP 15 (vc .geq 14 8)])
 (.cond (.s 15) (.seq (.region [vM 16 6,
 vP 17 (.cvi .u64 (.s 16)),
 vP 7 (.alloc 159 [(.int .u64 0)]),
 ⟨none, none, .inl (.st 1 (.s 7) (.s 17))⟩])
 (.seq (.region [vM 18 6,
 vN 19 115 [(.s 18)],
 vM 8 19])
 (.seq (.region [vM 20 1,
 vM 21 6,
 vP 22 (vc .quo 21 4),
 vP 23 (vc .mul 22 2),
 vP 24 (vb .add 20 23),
 vP 25 (vc .sub 24 1),
 vM 9 25])
 (.block 0 (.loop k82l0)))))
 (.skip)))
def k83 : Cd :=
  .seq (.region [vP 6 (.mv (vi 0)),
 vP 7 (.mv (vi 0))])
 (.seq (.region [vM 13 2,
 vM 14 1,
 vP 15 (vb .sub 13 14),
 vM 8 15])
 (.seq (.region [vP 9 (.alloc 3 [(.int .i64 0)])])
 (.seq (.region [vM 16 1,
 vM 17 8,
 vP 18 (vc .quo 17 4),
 vP 19 (vc .mul 18 1),
 vP 20 (vb .add 16 19),
 vM 10 20])
 (.seq (.region [vM 21 1,
 vM 22 8,
 vP 23 (vc .quo 22 4),
 vP 24 (vc .mul 23 2),
 vP 25 (vb .add 21 24),
 vM 11 25])
 (.seq (.region [vM 26 1,
 vM 27 8,
 vP 28 (vc .quo 27 4),
 vP 29 (vc .mul 28 3),
 vP 30 (vb .add 26 29),
 vM 12 30])
 (.seq (.seq (.region [vM 31 8,
 vP 32 (vc .geq 31 8)])
 (.cond (.s 32) (.seq (.seq (.region [vM 33 8,
 vP 34 (vc .geq 33 50)])
 (.cond (.s 34) (.seq (.region [vM 35 0,
 vM 36 10,
 vN 37 117 [(.s 35), (.s 36), (.s 9)],
 vM 10 37])
 (.seq (.region [vM 38 0,
 vM 39 11,
 vN 40 117 [(.s 38), (.s 39), (.s 9)],
 vM 11 40])
 (.region [vM 41 0,
 vM 42 12,
 vN 43 117 [(.s 41), (.s 42), (.s 9)],
 vM 12 43])))
 (.skip)))
 (.region [vM 44 0,
 vM 45 10,
 vM 46 11,
 vM 47 12,
 vN 48 118 [(.s 44), (.s 45), (.s 46), (.s 47), (.s 9)],
 vM 11 48]))
 (.skip)))
 (.seq (.region [vL 49 1 9])
 (.block 0 (.seq (.region [vP 52 (vc .eql 49 0),
 vM 51 52])
 (.cond (.s 51) (.seq (.region [vM 53 11,
 vM 6 53,
 vP 7 (.mv (vi 1))])
 (.ret))
 (.seq (.region [vP 55 (vc .eql 49 12),
 vM 54 55])
 (.cond (.s 54) (.seq (.region [vM 56 11,
 vM 6 56,
 vP 7 (.mv (vi 2))])
 (.ret))
 (.seq (.region [vM 50 11,
 vM 6 50,
 vP 7 (.mv (vi 0))])
 (.ret))))))))))))))
def k84l0 : Cd :=
  .seq (.seq (.region [vM 11 6,
 vM 12 7,
 vP 13 (vb .lss 11 12)])
 (.cond (.s 13) (.skip)
 (.exit 0)))
 (.block 1 (.seq (.draw [vD (vM 14 0) 0,
 vD (vM 15 6) 0,
 vD (vM 16 0) 0,
 vD (vM 17 7) 0,
 vD (vM 18 0) 0,
 vD (vM 19 7) 0,
 vD (vI 20 1 18 19) 48,
 vD (vL 21 1 20) 112,
 vD (vM 22 0) 0,
 vD (vM 23 6) 0,
 vD (vI 24 1 22 23) 768,
 vD (vL 25 1 24) 1792,
 vD (vI 26 1 14 15) 4083,
 ⟨⟨none, none, .inl (.st 1 (.s 26) (.s 21))⟩, (some [.at 0]), [], 8179, false⟩,
 vD (vI 27 1 16 17) 16383,
 ⟨⟨none, none, .inl (.st 1 (.s 27) (.s 25))⟩, (some [.at 0]), [], 32767, false⟩])
 (.seq (.region [vM 28 6,
 vP 29 (vc .add 28 1),
 vM 6 29])
 (.region [vM 30 7,
 vP 31 (vc .sub 30 1),
 vM 7 31]))))
def k84 : Cd :=
  .seq (.region [vM 8 1,
 vM 6 8])
 (.seq (.region [vM 9 2,
 vP 10 (vc .sub 9 1),
 vM 7 10])
 (.block 0 (.loop k84l0)))
def k85l0 : Cd :=
  .seq (.seq (.draw [vD (vM 17 7) 0,
 vD (vM 18 2) 0,
 vD (vP 19 (vb .lss 17 18)) 3,
 vD (vM 20 19) 7,
 vD (vT 20 21 (.mv (.s 0))) 15,
 vD (vT 20 22 (.mv (.s 7))) 15,
 vD (vT 20 23 (.ias 1 (.s 21) (.s 22))) 63,
 vD (vT 20 24 (.ld false 1 (.s 23))) 127,
 vD (vT 20 25 (.mv (.s 0))) 15,
 vD (vT 20 26 (.mv (.s 7))) 15,
 vD (vT 20 27 (vc .sub 26 1)) 527,
 vD (vT 20 28 (.ias 1 (.s 25) (.s 27))) 1807,
 vD (vT 20 29 (.ld false 1 (.s 28))) 3855,
 ⟨⟨some (20, true), some 30, .inr (.fn 86 [(.s 24), (.s 29)])⟩, some [], [], 8191, false⟩,
 vD (vT 20 31 (.not (.s 30))) 16383,
 vD (vP 32 (.pick (.s 20) (.s 31) (.c (.bool false)))) 32767])
 (.cond (.s 32) (.skip)
 (.exit 2)))
 (.block 3 (.region [vM 33 7,
 vP 34 (vc .add 33 1),
 vM 7 34]))
def k85l1 : Cd :=
  .seq (.seq (.region [vM 64 9,
 vP 65 (vc .geq 64 1)])
 (.cond (.s 65) (.skip)
 (.exit 4)))
 (.seq (.block 5 (.seq (.seq (.draw [vD (vM 68 0) 0,
 vD (vM 69 9) 0,
 vD (vI 70 1 68 69) 3,
 vD (vL 71 1 70) 7,
 vD (vM 72 0) 0,
 vD (vM 73 9) 0,
 vD (vP 74 (vc .sub 73 1)) 32,
 vD (vI 75 1 72 74) 112,
 vD (vL 76 1 75) 240,
 vD (vN 77 86 [(.s 71), (.s 76)]) 511,
 vD (vP 78 (.not (.s 77))) 1023])
 (.cond (.s 78) (.exit 4)
 (.skip)))
 (.draw [vD (vM 79 0) 0,
 vD (vM 80 9) 0,
 vD (vM 81 0) 0,
 vD (vM 82 9) 0,
 vD (vP 83 (vc .sub 82 1)) 8,
 vD (vM 84 0) 0,
 vD (vM 85 9) 0,
 vD (vP 86 (vc .sub 85 1)) 64,
 vD (vI 87 1 84 86) 224,
 vD (vL 88 1 87) 480,
 vD (vM 89 0) 0,
 vD (vM 90 9) 0,
 vD (vI 91 1 89 90) 3072,
 vD (vL 92 1 91) 7168,
 vD (vI 93 1 79 80) 16355,
 ⟨⟨none, none, .inl (.st 1 (.s 93) (.s 88))⟩, (some [.at 0]), [], 32739, false⟩,
 vD (vI 94 1 81 83) 65535,
 ⟨⟨none, none, .inl (.st 1 (.s 94) (.s 92))⟩, (some [.at 0]), [], 131071, false⟩])))
 (.region [vM 66 9,
 vP 67 (vc .sub 66 1),
 vM 9 67]))
def k85l2 : Cd :=
  .seq (.seq (.region [vM 101 10,
 vM 102 2,
 vP 103 (vb .lss 101 102)])
 (.cond (.s 103) (.skip)
 (.exit 6)))
 (.seq (.block 7 (.seq (.seq (.draw [vD (vM 106 0) 0,
 vD (vM 107 10) 0,
 vD (vI 108 1 106 107) 3,
 vD (vL 109 1 108) 7,
 vD (vM 110 0) 0,
 vD (vM 111 10) 0,
 vD (vP 112 (vc .sub 111 1)) 32,
 vD (vI 113 1 110 112) 112,
 vD (vL 114 1 113) 240,
 vD (vN 115 86 [(.s 109), (.s 114)]) 511,
 vD (vP 116 (.not (.s 115))) 1023])
 (.cond (.s 116) (.exit 6)
 (.skip)))
 (.draw [vD (vM 117 0) 0,
 vD (vM 118 10) 0,
 vD (vM 119 0) 0,
 vD (vM 120 10) 0,
 vD (vP 121 (vc .sub 120 1)) 8,
 vD (vM 122 0) 0,
 vD (vM 123 10) 0,
 vD (vP 124 (vc .sub 123 1)) 64,
 vD (vI 125 1 122 124) 224,
 vD (vL 126 1 125) 480,
 vD (vM 127 0) 0,
 vD (vM 128 10) 0,
 vD (vI 129 1 127 128) 3072,
 vD (vL 130 1 129) 7168,
 vD (vI 131 1 117 118) 16355,
 ⟨⟨none, none, .inl (.st 1 (.s 131) (.s 126))⟩, (some [.at 0]), [], 32739, false⟩,
 vD (vI 132 1 119 121) 65535,
 ⟨⟨none, none, .inl (.st 1 (.s 132) (.s 130))⟩, (some [.at 0]), [], 131071, false⟩])))
 (.region [vM 104 10,
 vP 105 (vc .add 104 1),
 vM 10 105]))
def k85l3 : Cd :=
  .seq (.seq (.region [vM 13 8,
 vP 14 (vc .lss 13 5)])
 (.cond (.s 14) (.skip)
 (.exit 0)))
 (.seq (.block 1 (.seq (.block 2 (.loop k85l0))
 (.seq (.seq (.region [vM 35 7,
 vM 36 2,
 vP 37 (vb .eql 35 36)])
 (.cond (.s 37) (.seq (.region [vP 6 (.mv (.c (.bool true)))])
 (.ret))
 (.skip)))
 (.seq (.seq (.region [vM 38 2,
 vM 39 1,
 vP 40 (vb .sub 38 39),
 vP 41 (vc .lss 40 50)])
 (.cond (.s 41) (.seq (.region [vP 6 (.mv (.c (.bool false)))])
 (.ret))
 (.skip)))
 (.seq (.draw [vD (vM 42 0) 0,
 vD (vM 43 7) 0,
 vD (vM 44 0) 0,
 vD (vM 45 7) 0,
 vD (vP 46 (vc .sub 45 1)) 8,
 vD (vM 47 0) 0,
 vD (vM 48 7) 0,
 vD (vP 49 (vc .sub 48 1)) 64,
 vD (vI 50 1 47 49) 224,
 vD (vL 51 1 50) 480,
 vD (vM 52 0) 0,
 vD (vM 53 7) 0,
 vD (vI 54 1 52 53) 3072,
 vD (vL 55 1 54) 7168,
 vD (vI 56 1 42 43) 16355,
 ⟨⟨none, none, .inl (.st 1 (.s 56) (.s 51))⟩, (some [.at 0]), [], 32739, false⟩,
 vD (vI 57 1 44 46) 65535,
 ⟨⟨none, none, .inl (.st 1 (.s 57) (.s 55))⟩, (some [.at 0]), [], 131071, false⟩])
 (.seq (.seq (.region [vM 58 7,
 vM 59 1,
 vP 60 (vb .sub 58 59),
 vP 61 (vc .geq 60 2)])
 (.cond (.s 61) (.seq (.region [vM 62 7,
 vP 63 (vc .sub 62 1),
 vM 9 63])
 (.block 4 (.loop k85l1)))
 (.skip)))
 (.seq (.region [vM 95 2,
 vM 96 7,
 vP 97 (vb .sub 95 96),
 vP 98 (vc .geq 97 2)])
 (.cond (.s 98) (.seq (.region [vM 99 7,
 vP 100 (vc .add 99 1),
 vM 10 100])
 (.block 6 (.loop k85l2)))
 (.skip)))))))))
 (.region [vM 15 8,
 vP 16 (vc .add 15 1),
 vM 8 16]))
def k85 : Cd :=
  .seq (.region [vP 6 (.mv (.c (.bool false)))])
 (.seq (.region [vM 11 1,
 vP 12 (vc .add 11 1),
 vM 7 12])
 (.seq (.seq (.region [vP 8 (.mv (vi 0))])
 (.block 0 (.loop k85l3)))
 (.seq (.region [vP 6 (.mv (.c (.bool false)))])
 (.ret))))
def k86 : Cd :=
  .seq (.region [vP 4 (.mv (.c (.bool false)))])
 (.seq (.region [vM 5 0,
 vN 6 119 [(.s 5)],
 vM 7 6,
 vT 7 8 (.mv (.s 1)),
 ⟨some (7, true), some 9, .inr (.fn 119 [(.s 8)])⟩,
 vT 7 10 (.not (.s 9)),
 vP 11 (.pick (.s 7) (.s 10) (.c (.bool false))),
 vM 12 11,
 vU 12 13 (.mv (.s 0)),
 vU 12 14 (.mv (.s 1)),
 vU 12 15 (vb .lss 13 14),
 vP 16 (.pick (.s 12) (.c (.bool true)) (.s 15)),
 vM 4 16])
 (.ret))
def k87l0 : Cd :=
  .seq (.seq (.draw [vD (vM 29 9) 0,
 vD (vM 30 10) 0,
 vD (vP 31 (vb .leq 29 30)) 3,
 vD (vM 32 31) 7,
 vD (vT 32 33 (.mv (.s 0))) 15,
 vD (vT 32 34 (.mv (.s 1))) 15,
 vD (vT 32 35 (.ias 1 (.s 33) (.s 34))) 63,
 vD (vT 32 36 (.ld false 1 (.s 35))) 127,
 vD (vT 32 37 (.mv (.s 0))) 15,
 vD (vT 32 38 (.mv (.s 9))) 15,
 vD (vT 32 39 (.ias 1 (.s 37) (.s 38))) 783,
 vD (vT 32 40 (.ld false 1 (.s 39))) 1807,
 ⟨⟨some (32, true), some 41, .inr (.fn 86 [(.s 36), (.s 40)])⟩, some [], [], 4095, false⟩,
 vD (vT 32 42 (.not (.s 41))) 8191,
 vD (vP 43 (.pick (.s 32) (.s 42) (.c (.bool false)))) 16383])
 (.cond (.s 43) (.skip)
 (.exit 2)))
 (.block 3 (.region [vM 44 9,
 vP 45 (vc .add 44 1),
 vM 9 45]))
def k87l1 : Cd :=
  .seq (.seq (.draw [vD (vM 46 9) 0,
 vD (vM 47 10) 0,
 vD (vP 48 (vb .leq 46 47)) 3,
 vD (vM 49 48) 7,
 vD (vT 49 50 (.mv (.s 0))) 15,
 vD (vT 49 51 (.mv (.s 1))) 15,
 vD (vT 49 52 (.ias 1 (.s 50) (.s 51))) 63,
 vD (vT 49 53 (.ld false 1 (.s 52))) 127,
 vD (vT 49 54 (.mv (.s 0))) 15,
 vD (vT 49 55 (.mv (.s 10))) 15,
 vD (vT 49 56 (.ias 1 (.s 54) (.s 55))) 783,
 vD (vT 49 57 (.ld false 1 (.s 56))) 1807,
 ⟨⟨some (49, true), some 58, .inr (.fn 86 [(.s 53), (.s 57)])⟩, some [], [], 4095, false⟩,
 vD (vP 59 (.pick (.s 49) (.s 58) (.c (.bool false)))) 8191])
 (.cond (.s 59) (.skip)
 (.exit 4)))
 (.block 5 (.region [vM 60 10,
 vP 61 (vc .sub 60 1),
 vM 10 61]))
def k87l2 : Cd :=
  .block 1 (.seq (.block 2 (.loop k87l0))
 (.seq (.block 4 (.loop k87l1))
 (.seq (.seq (.region [vM 62 9,
 vM 63 10,
 vP 64 (vb .gtr 62 63)])
 (.cond (.s 64) (.exit 0)
 (.skip)))
 (.seq (.draw [vD (vM 65 0) 0,
 vD (vM 66 9) 0,
 vD (vM 67 0) 0,
 vD (vM 68 10) 0,
 vD (vM 69 0) 0,
 vD (vM 70 10) 0,
 vD (vI 71 1 69 70) 48,
 vD (vL 72 1 71) 112,
 vD (vM 73 0) 0,
 vD (vM 74 9) 0,
 vD (vI 75 1 73 74) 768,
 vD (vL 76 1 75) 1792,
 vD (vI 77 1 65 66) 4083,
 ⟨⟨none, none, .inl (.st 1 (.s 77) (.s 72))⟩, (some [.at 0]), [], 8179, false⟩,
 vD (vI 78 1 67 68) 16383,
 ⟨⟨none, none, .inl (.st 1 (.s 78) (.s 76))⟩, (some [.at 0]), [], 32767, false⟩])
 (.seq (.region [vM 79 9,
 vP 80 (vc .add 79 1),
 vM 9 80])
 (.region [vM 81 10,
 vP 82 (vc .sub 81 1),
 vM 10 82]))))))
def k87 : Cd :=
  .seq (.region [vP 8 (.mv (vi 0))])
 (.seq (.draw [vD (vM 11 0) 0,
 vD (vM 12 1) 0,
 vD (vM 13 0) 0,
 vD (vM 14 3) 0,
 vD (vM 15 0) 0,
 vD (vM 16 3) 0,
 vD (vI 17 1 15 16) 48,
 vD (vL 18 1 17) 112,
 vD (vM 19 0) 0,
 vD (vM 20 1) 0,
 vD (vI 21 1 19 20) 768,
 vD (vL 22 1 21) 1792,
 vD (vI 23 1 11 12) 4083,
 ⟨⟨none, none, .inl (.st 1 (.s 23) (.s 18))⟩, (some [.at 0]), [], 8179, false⟩,
 vD (vI 24 1 13 14) 16383,
 ⟨⟨none, none, .inl (.st 1 (.s 24) (.s 22))⟩, (some [.at 0]), [], 32767, false⟩])
 (.seq (.region [vM 25 1,
 vP 26 (vc .add 25 1),
 vM 27 2,
 vP 28 (vc .sub 27 1),
 vM 9 26,
 vM 10 28])
 (.seq (.block 0 (.loop k87l2))
 (.seq (.region [vM 83 9,
 vM 8 83])
 (.ret)))))
def k88l0 : Cd :=
  .seq (.seq (.draw [vD (vM 30 10) 0,
 vD (vM 31 11) 0,
 vD (vP 32 (vb .leq 30 31)) 3,
 vD (vM 33 32) 7,
 vD (vT 33 34 (.mv (.s 0))) 15,
 vD (vT 33 35 (.mv (.s 10))) 15,
 vD (vT 33 36 (.ias 1 (.s 34) (.s 35))) 63,
 vD (vT 33 37 (.ld false 1 (.s 36))) 127,
 vD (vT 33 38 (.mv (.s 0))) 15,
 vD (vT 33 39 (.mv (.s 1))) 15,
 vD (vT 33 40 (.ias 1 (.s 38) (.s 39))) 783,
 vD (vT 33 41 (.ld false 1 (.s 40))) 1807,
 ⟨⟨some (33, true), some 42, .inr (.fn 86 [(.s 37), (.s 41)])⟩, some [], [], 4095, false⟩,
 vD (vP 43 (.pick (.s 33) (.s 42) (.c (.bool false)))) 8191])
 (.cond (.s 43) (.skip)
 (.exit 0)))
 (.block 1 (.region [vM 44 10,
 vP 45 (vc .add 44 1),
 vM 10 45]))
def k88l1 : Cd :=
  .seq (.seq (.draw [vD (vM 46 10) 0,
 vD (vM 47 11) 0,
 vD (vP 48 (vb .leq 46 47)) 3,
 vD (vM 49 48) 7,
 vD (vT 49 50 (.mv (.s 0))) 15,
 vD (vT 49 51 (.mv (.s 11))) 15,
 vD (vT 49 52 (.ias 1 (.s 50) (.s 51))) 63,
 vD (vT 49 53 (.ld false 1 (.s 52))) 127,
 vD (vT 49 54 (.mv (.s 0))) 15,
 vD (vT 49 55 (.mv (.s 1))) 15,
 vD (vT 49 56 (.ias 1 (.s 54) (.s 55))) 783,
 vD (vT 49 57 (.ld false 1 (.s 56))) 1807,
 ⟨⟨some (49, true), some 58, .inr (.fn 86 [(.s 53), (.s 57)])⟩, some [], [], 4095, false⟩,
 vD (vT 49 59 (.not (.s 58))) 8191,
 vD (vP 60 (.pick (.s 49) (.s 59) (.c (.bool false)))) 16383])
 (.cond (.s 60) (.skip)
 (.exit 2)))
 (.block 3 (.region [vM 61 11,
 vP 62 (vc .sub 61 1),
 vM 11 62]))
def k88l2 : Cd :=
  .seq (.seq (.draw [vD (vM 99 10) 0,
 vD (vM 100 11) 0,
 vD (vP 101 (vb .leq 99 100)) 3,
 vD (vM 102 101) 7,
 vD (vT 102 103 (.mv (.s 0))) 15,
 vD (vT 102 104 (.mv (.s 10))) 15,
 vD (vT 102 105 (.ias 1 (.s 103) (.s 104))) 63,
 vD (vT 102 106 (.ld false 1 (.s 105))) 127,
 vD (vT 102 107 (.mv (.s 0))) 15,
 vD (vT 102 108 (.mv (.s 1))) 15,
 vD (vT 102 109 (.ias 1 (.s 107) (.s 108))) 783,
 vD (vT 102 110 (.ld false 1 (.s 109))) 1807,
 ⟨⟨some (102, true), some 111, .inr (.fn 86 [(.s 106), (.s 110)])⟩, some [], [], 4095, false⟩,
 vD (vP 112 (.pick (.s 102) (.s 111) (.c (.bool false)))) 8191])
 (.cond (.s 112) (.skip)
 (.exit 6)))
 (.block 7 (.region [vM 113 10,
 vP 114 (vc .add 113 1),
 vM 10 114]))
def k88l3 : Cd :=
  .seq (.seq (.draw [vD (vM 115 10) 0,
 vD (vM 116 11) 0,
 vD (vP 117 (vb .leq 115 116)) 3,
 vD (vM 118 117) 7,
 vD (vT 118 119 (.mv (.s 0))) 15,
 vD (vT 118 120 (.mv (.s 11))) 15,
 vD (vT 118 121 (.ias 1 (.s 119) (.s 120))) 63,
 vD (vT 118 122 (.ld false 1 (.s 121))) 127,
 vD (vT 118 123 (.mv (.s 0))) 15,
 vD (vT 118 124 (.mv (.s 1))) 15,
 vD (vT 118 125 (.ias 1 (.s 123) (.s 124))) 783,
 vD (vT 118 126 (.ld false 1 (.s 125))) 1807,
 ⟨⟨some (118, true), some 127, .inr (.fn 86 [(.s 122), (.s 126)])⟩, some [], [], 4095, false⟩,
 vD (vT 118 128 (.not (.s 127))) 8191,
 vD (vP 129 (.pick (.s 118) (.s 128) (.c (.bool false)))) 16383])
 (.cond (.s 129) (.skip)
 (.exit 8)))
 (.block 9 (.region [vM 130 11,
 vP 131 (vc .sub 130 1),
 vM 11 131]))
def k88l4 : Cd :=
  .block 5 (.seq (.block 6 (.loop k88l2))
 (.seq (.block 8 (.loop k88l3))
 (.seq (.seq (.region [vM 132 10,
 vM 133 11,
 vP 134 (vb .gtr 132 133)])
 (.cond (.s 134) (.exit 4)
 (.skip)))
 (.seq (.draw [vD (vM 135 0) 0,
 vD (vM 136 10) 0,
 vD (vM 137 0) 0,
 vD (vM 138 11) 0,
 vD (vM 139 0) 0,
 vD (vM 140 11) 0,
 vD (vI 141 1 139 140) 48,
 vD (vL 142 1 141) 112,
 vD (vM 143 0) 0,
 vD (vM 144 10) 0,
 vD (vI 145 1 143 144) 768,
 vD (vL 146 1 145) 1792,
 vD (vI 147 1 135 136) 4083,
 ⟨⟨none, none, .inl (.st 1 (.s 147) (.s 142))⟩, (some [.at 0]), [], 8179, false⟩,
 vD (vI 148 1 137 138) 16383,
 ⟨⟨none, none, .inl (.st 1 (.s 148) (.s 146))⟩, (some [.at 0]), [], 32767, false⟩])
 (.seq (.region [vM 149 10,
 vP 150 (vc .add 149 1),
 vM 10 150])
 (.region [vM 151 11,
 vP 152 (vc .sub 151 1),
 vM 11 152]))))))
def k88 : Cd :=
  .seq (.region [vP 8 (.mv (vi 0)),
 vP 9 (.mv (.c (.bool false)))])
 (.seq (.draw [vD (vM 12 0) 0,
 vD (vM 13 1) 0,
 vD (vM 14 0) 0,
 vD (vM 15 3) 0,
 vD (vM 16 0) 0,
 vD (vM 17 3) 0,
 vD (vI 18 1 16 17) 48,
 vD (vL 19 1 18) 112,
 vD (vM 20 0) 0,
 vD (vM 21 1) 0,
 vD (vI 22 1 20 21) 768,
 vD (vL 23 1 22) 1792,
 vD (vI 24 1 12 13) 4083,
 ⟨⟨none, none, .inl (.st 1 (.s 24) (.s 19))⟩, (some [.at 0]), [], 8179, false⟩,
 vD (vI 25 1 14 15) 16383,
 ⟨⟨none, none, .inl (.st 1 (.s 25) (.s 23))⟩, (some [.at 0]), [], 32767, false⟩])
 (.seq (.region [vM 26 1,
 vP 27 (vc .add 26 1),
 vM 28 2,
 vP 29 (vc .sub 28 1),
 vM 10 27,
 vM 11 29])
 (.seq (.block 0 (.loop k88l0))
 (.seq (.block 2 (.loop k88l1))
 (.seq (.seq (.region [vM 63 10,
 vM 64 11,
 vP 65 (vb .gtr 63 64)])
 (.cond (.s 65) (.seq (.draw [vD (vM 66 0) 0,
 vD (vM 67 11) 0,
 vD (vM 68 0) 0,
 vD (vM 69 1) 0,
 vD (vM 70 0) 0,
 vD (vM 71 1) 0,
 vD (vI 72 1 70 71) 48,
 vD (vL 73 1 72) 112,
 vD (vM 74 0) 0,
 vD (vM 75 11) 0,
 vD (vI 76 1 74 75) 768,
 vD (vL 77 1 76) 1792,
 vD (vI 78 1 66 67) 4083,
 ⟨⟨none, none, .inl (.st 1 (.s 78) (.s 73))⟩, (some [.at 0]), [], 8179, false⟩,
 vD (vI 79 1 68 69) 16383,
 ⟨⟨none, none, .inl (.st 1 (.s 79) (.s 77))⟩, (some [.at 0]), [], 32767, false⟩])
 (.seq (.region [vM 80 11,
 vM 8 80,
 vP 9 (.mv (.c (.bool true)))])
 (.ret)))
 (.skip)))
 (.seq (.draw [vD (vM 81 0) 0,
 vD (vM 82 10) 0,
 vD (vM 83 0) 0,
 vD (vM 84 11) 0,
 vD (vM 85 0) 0,
 vD (vM 86 11) 0,
 vD (vI 87 1 85 86) 48,
 vD (vL 88 1 87) 112,
 vD (vM 89 0) 0,
 vD (vM 90 10) 0,
 vD (vI 91 1 89 90) 768,
 vD (vL 92 1 91) 1792,
 vD (vI 93 1 81 82) 4083,
 ⟨⟨none, none, .inl (.st 1 (.s 93) (.s 88))⟩, (some [.at 0]), [], 8179, false⟩,
 vD (vI 94 1 83 84) 16383,
 ⟨⟨none, none, .inl (.st 1 (.s 94) (.s 92))⟩, (some [.at 0]), [], 32767, false⟩])
 (.seq (.region [vM 95 10,
 vP 96 (vc .add 95 1),
 vM 10 96])
 (.seq (.region [vM 97 11,
 vP 98 (vc .sub 97 1),
 vM 11 98])
 (.seq (.block 4 (.loop k88l4))
 (.seq (.draw [vD (vM 153 0) 0,
 vD (vM 154 11) 0,
 vD (vM 155 0) 0,
 vD (vM 156 1) 0,
 vD (vM 157 0) 0,
 vD (vM 158 1) 0,
 vD (vI 159 1 157 158) 48,
 vD (vL 160 1 159) 112,
 vD (vM 161 0) 0,
 vD (vM 162 11) 0,
 vD (vI 163 1 161 162) 768,
 vD (vL 164 1 163) 1792,
 vD (vI 165 1 153 154) 4083,
 ⟨⟨none, none, .inl (.st 1 (.s 165) (.s 160))⟩, (some [.at 0]), [], 8179, false⟩,
 vD (vI 166 1 155 156) 16383,
 ⟨⟨none, none, .inl (.st 1 (.s 166) (.s 164))⟩, (some [.at 0]), [], 32767, false⟩])
 (.seq (.region [vM 167 11,
 vM 8 167,
 vP 9 (.mv (.c (.bool false)))])
 (.ret))))))))))))
def k89 : Cd :=
  .seq (.region [vP 2 (.mv (vi 0))])
 (.seq (.seq (.region [vM 3 0,
 vP 4 (.bin .geq (.s 3) (.c (.int .u32 65536)))])
 (.cond (.s 4) (.seq (.region [vM 5 0,
 vP 6 (.bin .shr (.s 5) (.c (.int .u64 16))),
 vM 0 6])
 (.region [vP 2 (.mv (vi 16))]))
 (.skip)))
 (.seq (.seq (.region [vM 7 0,
 vP 8 (.bin .geq (.s 7) (.c (.int .u32 256)))])
 (.cond (.s 8) (.seq (.region [vM 9 0,
 vP 10 (.bin .shr (.s 9) (.c (.int .u64 8))),
 vM 0 10])
 (.region [vM 11 2,
 vP 12 (vc .add 11 8),
 vM 2 12]))
 (.skip)))
 (.seq (.region [vM 13 2,
 vM 14 0,
 vP 15 (.cvi .u8 (.s 14)),
 ⟨none, some 16, .inl (.ixs (.c (.string ⟨#[0, 1, 2, 2, 3, 3, 3, 3, 4, 4, 4, 4, 4, 4, 4, 4, 5, 5, 5, 5, 5, 5, 5, 5, 5, 5, 5, 5, 5, 5, 5, 5, 6, 6, 6, 6, 6, 6, 6, 6, 6, 6, 6, 6, 6, 6, 6, 6, 6, 6, 6, 6, 6, 6, 6, 6, 6, 6, 6, 6, 6, 6, 6, 6, 7, 7, 7, 7, 7, 7, 7, 7, 7, 7, 7, 7, 7, 7, 7, 7, 7, 7, 7, 7, 7, 7, 7, 7, 7, 7, 7, 7, 7, 7, 7, 7, 7, 7, 7, 7, 7, 7, 7, 7, 7, 7, 7, 7, 7, 7, 7, 7, 7, 7, 7, 7, 7, 7, 7, 7, 7, 7, 7, 7, 7, 7, 7, 7, 8, 8, 8, 8, 8, 8, 8, 8, 8, 8, 8, 8, 8, 8, 8, 8, 8, 8, 8, 8, 8, 8, 8, 8, 8, 8, 8, 8, 8, 8, 8, 8, 8, 8, 8, 8, 8, 8, 8, 8, 8, 8, 8, 8, 8, 8, 8, 8, 8, 8, 8, 8, 8, 8, 8, 8, 8, 8, 8, 8, 8, 8, 8, 8, 8, 8, 8, 8, 8, 8, 8, 8, 8, 8, 8, 8, 8, 8, 8, 8, 8, 8, 8, 8, 8, 8, 8, 8, 8, 8, 8, 8, 8, 8, 8, 8, 8, 8, 8, 8, 8, 8, 8, 8, 8, 8, 8, 8, 8, 8, 8, 8, 8, 8, 8, 8, 8, 8, 8, 8, 8, 8, 8, 8, 8, 8, 8, 8]⟩)) (.s 15))⟩,
 vP 17 (.cvi .i64 (.s 16)),
 vP 18 (vb .add 13 17),
 vM 2 18])
 (.ret))))
def k90 : Cd :=
  .seq (.region [vP 2 (.mv (vi 0))])
 (.seq (.seq (.region [vM 3 0,
 vP 4 (.bin .geq (.s 3) (.c (.int .u64 4294967296)))])
 (.cond (.s 4) (.seq (.region [vM 5 0,
 vP 6 (.bin .shr (.s 5) (.c (.int .u64 32))),
 vM 0 6])
 (.region [vP 2 (.mv (vi 32))]))
 (.skip)))
 (.seq (.seq (.region [vM 7 0,
 vP 8 (.bin .geq (.s 7) (.c (.int .u64 65536)))])
 (.cond (.s 8) (.seq (.region [vM 9 0,
 vP 10 (.bin .shr (.s 9) (.c (.int .u64 16))),
 vM 0 10])
 (.region [vM 11 2,
 vP 12 (vc .add 11 16),
 vM 2 12]))
 (.skip)))
 (.seq (.seq (.region [vM 13 0,
 vP 14 (.bin .geq (.s 13) (.c (.int .u64 256)))])
 (.cond (.s 14) (.seq (.region [vM 15 0,
 vP 16 (.bin .shr (.s 15) (.c (.int .u64 8))),
 vM 0 16])
 (.region [vM 17 2,
 vP 18 (vc .add 17 8),
 vM 2 18]))
 (.skip)))
 (.seq (.region [vM 19 2,
 vM 20 0,
 vP 21 (.cvi .u8 (.s 20)),
 ⟨none, some 22, .inl (.ixs (.c (.string ⟨#[0, 1, 2, 2, 3, 3, 3, 3, 4, 4, 4, 4, 4, 4, 4, 4, 5, 5, 5, 5, 5, 5, 5, 5, 5, 5, 5, 5, 5, 5, 5, 5, 6, 6, 6, 6, 6, 6, 6, 6, 6, 6, 6, 6, 6, 6, 6, 6, 6, 6, 6, 6, 6, 6, 6, 6, 6, 6, 6, 6, 6, 6, 6, 6, 7, 7, 7, 7, 7, 7, 7, 7, 7, 7, 7, 7, 7, 7, 7, 7, 7, 7, 7, 7, 7, 7, 7, 7, 7, 7, 7, 7, 7, 7, 7, 7, 7, 7, 7, 7, 7, 7, 7, 7, 7, 7, 7, 7, 7, 7, 7, 7, 7, 7, 7, 7, 7, 7, 7, 7, 7, 7, 7, 7, 7, 7, 7, 7, 8, 8, 8, 8, 8, 8, 8, 8, 8, 8, 8, 8, 8, 8, 8, 8, 8, 8, 8, 8, 8, 8, 8, 8, 8, 8, 8, 8, 8, 8, 8, 8, 8, 8, 8, 8, 8, 8, 8, 8, 8, 8, 8, 8, 8, 8, 8, 8, 8, 8, 8, 8, 8, 8, 8, 8, 8, 8, 8, 8, 8, 8, 8, 8, 8, 8, 8, 8, 8, 8, 8, 8, 8, 8, 8, 8, 8, 8, 8, 8, 8, 8, 8, 8, 8, 8, 8, 8, 8, 8, 8, 8, 8, 8, 8, 8, 8, 8, 8, 8, 8, 8, 8, 8, 8, 8, 8, 8, 8, 8, 8, 8, 8, 8, 8, 8, 8, 8, 8, 8, 8, 8, 8, 8, 8, 8, 8, 8]⟩)) (.s 21))⟩,
 vP 23 (.cvi .i64 (.s 22)),
 vP 24 (vb .add 19 23),
 vM 2 24])
 (.ret)))))
def k91l0 : Cd :=
  .seq (.region [vP 34 (vb .lss 33 32)])
 (.seq (.cond (.s 34) (.skip)
 (.exit 0))
 (.seq (.block 1 (.seq (.region [vM 35 33,
 vM 7 35])
 (.seq (.draw [⟨vL 36 1 3, some [], [.at 7, .at 0], 0, false⟩,
 vD (vM 37 7) 0,
 vD (vM 38 0) 0,
 ⟨vN 39 93 [(.s 37), (.s 38)], (some [.at 7, .at 0]), [], 6, false⟩,
 ⟨⟨none, some 40, .inr (.val false (.s 36) [(.s 39)])⟩, none, [], 15, false⟩,
 vD (vP 41 (.not (.s 40))) 31])
 (.cond (.s 41) (.seq (.region [vP 5 (.mv (.c (.bool false)))])
 (.ret))
 (.skip)))))
 (.region [vP 42 (vc .add 33 1),
 vM 33 42])))
def k91 : Cd :=
  .seq (.region [vP 5 (.mv (.c (.bool false)))])
 (.seq (.region [vP 8 (.ld true 2 (.s 1)),
 vM 9 0,
 vN 10 40 [(.s 8), (.s 9)],
 vM 6 10])
 (.seq (.seq (.region [vM 11 6,
 vN 12 92 [(.s 11)],
 vP 13 (.len (.s 12)),
 vP 14 (vc .gtr 13 0)])
 (.cond (.s 14) (.seq (.region [vP 5 (.mv (.c (.bool true)))])
 (.ret))
 (.skip)))
 (.seq (.seq (.region [vM 15 0,
 vP 16 (.len (.s 15)),
 vF 17 1 1,
 vL 18 1 17,
 vP 19 (.len (.s 18)),
 vP 20 (vb .eql 16 19)])
 (.cond (.s 20) (.seq (.region [vL 21 1 2,
 vM 22 0,
 vM 23 6,
 ⟨none, some 24, .inr (.val false (.s 21) [(.s 22), (.s 23)])⟩,
 vM 5 24])
 (.ret))
 (.skip)))
 (.seq (.seq (.region [vF 25 1 1,
 vL 26 1 25,
 vM 27 0,
 vP 28 (.len (.s 27)),
 vI 29 2 26 28,
 vF 30 29 1,
 vL 31 1 30,
 vP 32 (.len (.s 31)),
 vP 33 (.mv (vi 0))])
 (.block 0 (.loop k91l0)))
 (.seq (.region [vP 5 (.mv (.c (.bool true)))])
 (.ret))))))
def k92 : Cd :=
  .seq (.region [vP 2 (.mv (.c (.slice none 0 0)))])
 (.seq (.region [vM 6 0,
 vN 7 120 [(.s 6)],
 vM 5 7,
 vP 8 (.ex (.s 5) 0),
 vP 9 (.ex (.s 5) 1),
 vM 3 8,
 vM 4 9])
 (.seq (.region [vM 10 3,
 vM 2 10])
 (.ret)))
def k93 : Cd :=
  .seq (.region [vP 4 (.mv (.c (.slice none 0 0)))])
 (.seq (.region [vM 6 1,
 vP 7 (.len (.s 6)),
 vP 8 (vc .add 7 1),
 vP 9 (.mks 3 1 8 [(.int .i64 0)] (.s 8) (.s 8)),
 vM 5 9])
 (.seq (.region [vM 10 5,
 vM 11 1,
 vP 12 (.cpy 1 (.s 10) (.s 11))])
 (.seq (.region [vM 13 5,
 vM 14 1,
 vP 15 (.len (.s 14)),
 vM 16 0,
 vI 17 1 13 15,
 ⟨none, none, .inl (.st 1 (.s 17) (.s 16))⟩])
 (.seq (.region [vM 18 5,
 vM 4 18])
 (.ret)))))
def k94 : Cd :=
  .seq (.region [vP 4 (.mv (.c (.bool false)))])
 (.seq (.region [vM 5 0,
 vM 6 1,
 vN 7 121 [(.s 5), (.s 6)],
 vP 8 (vc .geq 7 0),
 vM 4 8])
 (.ret))
def k95 : Cd :=
  .seq (.region [vP 6 (.mv (vi 0)),
 vP 7 (.mv (vi 0)),
 vP 8 (.mv (vi 0))])
 (.seq (.region [vM 11 0,
 vM 12 1,
 vM 13 2,
 vN 14 122 [(.s 11), (.s 12), (.s 13)],
 vM 10 14,
 vP 15 (.ex (.s 10) 0),
 vP 16 (.ex (.s 10) 1),
 vP 9 (.alloc 168 [(.slice none 0 0), (.slice none 0 0), (.int .i64 0), (.int .i64 0)]),
 ⟨none, none, .inl (.st 4 (.s 9) (.s 15))⟩,
 vM 8 16])
 (.seq (.seq (.region [vM 17 8,
 vP 18 (vc .neq 17 0)])
 (.cond (.s 18) (.seq (.region [vM 19 8,
 vP 6 (.mv (vi 0)),
 vP 7 (.mv (vi 0)),
 vM 8 19])
 (.ret))
 (.skip)))
 (.seq (.draw [vD (vF 20 9 0) 0,
 vD (vF 21 20 0) 1,
 vD (vF 22 21 1) 3,
 vD (vL 23 1 22) 7,
 vD (vF 24 9 3) 0,
 vD (vL 25 1 24) 16,
 vD (vI 26 1 23 25) 63,
 vD (vL 27 1 26) 127,
 vD (vF 28 9 2) 0,
 vD (vL 29 1 28) 256,
 vD (vI 30 1 27 29) 1023,
 vD (vL 31 1 30) 2047,
 vD (vP 32 (.neg (.s 31))) 4095,
 vD (vF 33 9 0) 0,
 vD (vF 34 33 0) 8192,
 vD (vF 35 34 1) 24576,
 vD (vL 36 1 35) 57344,
 vD (vF 37 9 2) 0,
 vD (vL 38 1 37) 131072,
 vD (vI 39 1 36 38) 516096,
 vD (vL 40 1 39) 1040384,
 vD (vF 41 9 3) 0,
 vD (vL 42 1 41) 2097152,
 vD (vI 43 1 40 42) 8380416,
 vD (vL 44 1 43) 16769024,
 vD (vM 6 32) 8191,
 vD (vM 7 44) 67108863,
 vD (vP 8 (.mv (vi 0))) 134217727])
 (.ret))))
def k96 : Cd :=
  .seq (.region [vM 5 0,
 vP 6 (.len (.s 5)),
 vM 4 6])
 (.region [vM 7 0,
 vM 8 4,
 vM 9 4,
 vP 10 (.cvi .u64 (.s 9)),
 vN 11 59 [(.s 10)],
 vM 12 1,
 vN 13 123 [(.s 7), (vi 0), (.s 8), (.s 11), (.s 12)]])
def k97 : Cd :=
  .seq (.region [vP 2 (.box 68 2 (.s 0)),
 vP 3 (.box 68 2 (.s 1)),
 vP 4 (.mv (vi 0))])
 (.seq (.region [vF 5 2 0,
 vL 6 1 5,
 vF 7 3 0,
 vL 8 1 7,
 vN 9 98 [(.s 6), (.s 8)],
 vM 4 9])
 (.ret))
def k98 : Cd :=
  .seq (.region [vP 4 (.mv (vi 0))])
 (.seq (.region [vM 7 0,
 vN 8 119 [(.s 7)],
 vM 5 8])
 (.seq (.region [vM 9 1,
 vN 10 119 [(.s 9)],
 vM 6 10])
 (.seq (.seq (.region [vM 11 5])
 (.cond (.s 11) (.seq (.seq (.region [vM 12 6])
 (.cond (.s 12) (.seq (.region [vP 4 (.mv (vi 0))])
 (.ret))
 (.skip)))
 (.seq (.region [vP 4 (.mv (.c (.int .i64 (-1))))])
 (.ret)))
 (.skip)))
 (.seq (.seq (.region [vM 13 6])
 (.cond (.s 13) (.seq (.region [vP 4 (.mv (vi 1))])
 (.ret))
 (.skip)))
 (.seq (.seq (.region [vM 14 0,
 vM 15 1,
 vP 16 (vb .lss 14 15)])
 (.cond (.s 16) (.seq (.region [vP 4 (.mv (.c (.int .i64 (-1))))])
 (.ret))
 (.skip)))
 (.seq (.seq (.region [vM 17 0,
 vM 18 1,
 vP 19 (vb .gtr 17 18)])
 (.cond (.s 19) (.seq (.region [vP 4 (.mv (vi 1))])
 (.ret))
 (.skip)))
 (.seq (.region [vP 4 (.mv (vi 0))])
 (.ret))))))))
def k99 : Cd :=
  .seq (.region [vP 4 (.mv (.c (.slice none 0 0)))])
 (.seq (.seq (.region [vM 5 1,
 vP 6 (vc .lss 5 0)])
 (.cond (.s 6) (.region [⟨none, some 7, .inl (.mki 9 (.c (.string ⟨#[99, 97, 110, 110, 111, 116, 32, 98, 101, 32, 110, 101, 103, 97, 116, 105, 118, 101]⟩)))⟩,
 ⟨none, none, .inr (.pan (.s 7))⟩])
 (.skip)))
 (.seq (.seq (.region [vM 8 1,
 vM 9 0,
 vP 10 (.cap (.s 9)),
 vM 11 0,
 vP 12 (.len (.s 11)),
 vP 13 (vb .sub 10 12),
 vP 14 (vb .sub 8 13),
 vM 1 14])
 (.seq (.region [vM 15 1,
 vP 16 (vc .gtr 15 0)])
 (.cond (.s 16) (.region [vM 17 0,
 vM 18 0,
 vP 19 (.cap (.s 18)),
 vP 20 (.slc 1 (.s 17) none (some (.s 19)) none),
 vM 21 1,
 vP 22 (.apz 3 1 8 [(.int .i64 0)] (.s 20) (.s 21)),
 vM 23 0,
 vP 24 (.len (.s 23)),
 vP 25 (.slc 1 (.s 22) none (some (.s 24)) none),
 vM 0 25])
 (.skip))))
 (.seq (.region [vM 26 0,
 vM 4 26])
 (.ret))))
end Go.Proofs.YtmncdmpeeibgmaaGreatDoor
