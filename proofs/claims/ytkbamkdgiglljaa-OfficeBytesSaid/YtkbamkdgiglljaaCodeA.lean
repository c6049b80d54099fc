/- The small code of the functions of this program, as its own reader reads them: part A. -/
import Derived.Test.YtkbamkdgiglljaaEmR
namespace Go.Proofs.Ytkbamkdgiglljaa
open Go Go.Em
set_option maxRecDepth 100000
@[simp] abbrev vM (d x : Nat) : G := ⟨none, some d, .inl (.mv (.s x))⟩
@[simp] abbrev vL (d n x : Nat) : G := ⟨none, some d, .inl (.ld false n (.s x))⟩
@[simp] abbrev vF (d x o : Nat) : G := ⟨none, some d, .inl (.fa (.s x) o)⟩
@[simp] abbrev vI (d n x i : Nat) : G := ⟨none, some d, .inl (.ias n (.s x) (.s i))⟩
@[simp] abbrev vi (n : Int) : X := .c (.int .i64 n)
@[simp] abbrev vb (o : BinOp) (a b : Nat) : M := .bin o (.s a) (.s b)
@[simp] abbrev vc (o : BinOp) (a : Nat) (n : Int) : M := .bin o (.s a) (.c (.int .i64 n))
@[simp] abbrev vP (d : Nat) (m : M) : G := ⟨none, some d, .inl m⟩
@[simp] abbrev vT (g d : Nat) (m : M) : G := ⟨some (g, true), some d, .inl m⟩
@[simp] abbrev vU (g d : Nat) (m : M) : G := ⟨some (g, false), some d, .inl m⟩
@[simp] abbrev vN (d : Nat) (f : FuncId) (l : List X) : G := ⟨none, some d, .inr (.fn f l)⟩
@[simp] abbrev vD (g : G) (n : Nat) : DG := ⟨g, some [], [], n, false⟩
def k3 : Cd :=
  .seq (.region [vP 2 (.box 25 8 (.s 0)),
 vP 4 (.mv (.c (.bool false)))])
 (.seq (.region [vP 14 (.ld true 8 (.s 2)),
 vN 15 4 [(.s 14)],
 vM 13 15,
 vP 16 (.ex (.s 13) 0),
 vP 17 (.ex (.s 13) 1),
 vM 5 16,
 vM 6 17])
 (.seq (.region [vM 19 5,
 vN 20 5 [(.s 19)],
 vM 18 20,
 vP 21 (.ex (.s 18) 0),
 vP 22 (.ex (.s 18) 1),
 ⟨none, some 7, .inl (.alloc 25 [(.int .i64 0), (.int .i64 0), (.int .i64 0), (.int .i64 0), (.int .i64 0), (.int .i64 0), (.int .i64 0), (.string ⟨#[]⟩)])⟩,
 ⟨none, none, .inl (.st 8 (.s 7) (.s 21))⟩,
 vM 8 22])
 (.seq (.seq (.region [vM 23 6,
 vP 24 (vc .eql 23 0),
 vM 25 24,
 vT 25 26 (.mv (.s 8)),
 vT 25 27 (vc .neq 26 0),
 vT 25 28 (.mv (.s 27)),
 vU 28 29 (.ld true 8 (.s 7)),
 vU 28 30 (.ld true 8 (.s 2)),
 vU 28 31 (.eq true (.cells [.int, .int, .int, .int, .int, .int, .int, .str]) (.s 29) (.s 30)),
 vT 25 32 (.pick (.s 28) (.c (.bool true)) (.s 31)),
 vP 33 (.pick (.s 25) (.s 32) (.c (.bool false)))])
 (.cond (.s 33) (.seq (.region [vP 4 (.mv (.c (.bool false)))])
 (.ret))
 (.skip)))
 (.seq (.region [vM 35 1,
 vN 36 5 [(.s 35)],
 vM 34 36,
 vP 37 (.ex (.s 34) 0),
 vP 38 (.ex (.s 34) 1),
 ⟨none, some 9, .inl (.alloc 25 [(.int .i64 0), (.int .i64 0), (.int .i64 0), (.int .i64 0), (.int .i64 0), (.int .i64 0), (.int .i64 0), (.string ⟨#[]⟩)])⟩,
 ⟨none, none, .inl (.st 8 (.s 9) (.s 37))⟩,
 vM 10 38])
 (.seq (.region [vP 40 (.ld true 8 (.s 9)),
 vN 41 4 [(.s 40)],
 vM 39 41,
 vP 42 (.ex (.s 39) 0),
 vP 43 (.ex (.s 39) 1),
 vM 11 42,
 vM 12 43])
 (.seq (.region [vM 44 10,
 vP 45 (vc .neq 44 0),
 vM 46 45,
 vU 46 47 (.mv (.s 12)),
 vU 46 48 (vc .eql 47 0),
 vU 46 49 (.mv (.s 48)),
 vT 49 50 (.mv (.s 11)),
 vT 49 51 (.b2s (.s 50)),
 vT 49 52 (.mv (.s 1)),
 vT 49 53 (.b2s (.s 52)),
 vT 49 54 (vb .eql 51 53),
 vU 46 55 (.pick (.s 49) (.s 54) (.c (.bool false))),
 vP 56 (.pick (.s 46) (.c (.bool true)) (.s 55)),
 vM 57 56,
 ⟨some (57, true), some 58, .inr (.fn 6 [])⟩,
 vP 59 (.pick (.s 57) (.s 58) (.c (.bool false))),
 vM 4 59])
 (.ret)))))))
def k4 : Cd :=
  .seq (.region [vP 1 (.box 25 8 (.s 0)),
 vP 2 (.mv (.c (.slice none 0 0))),
 vP 3 (.mv (vi 0))])
 (.seq (.seq (.region [vP 6 (.ld true 8 (.s 1)),
 vN 7 7 [(.s 6)],
 vM 4 7])
 (.seq (.region [vM 8 4,
 vP 9 (vc .neq 8 0)])
 (.cond (.s 9) (.seq (.region [vM 10 4,
 vP 2 (.mv (.c (.slice none 0 0))),
 vM 3 10])
 (.ret))
 (.skip))))
 (.seq (.region [vF 11 1 7,
 vL 12 1 11,
 vP 13 (.lens (.s 12)),
 vP 14 (.bin .add (vi 20) (.s 13)),
 vP 15 (.mks 5 1 1 [(.int .u8 0)] (.s 14) (.s 14)),
 vM 5 15])
 (.seq (.draw [vD (vM 16 5) 0,
 vD (vP 17 (.slc 1 (.s 16) (some (vi 0)) none none)) 1,
 vD (vF 18 1 0) 0,
 vD (vP 19 (.ld true 2 (.s 18))) 4,
 ⟨vN 20 8 [(.s 17), (.s 19)], none, [], 15, false⟩])
 (.seq (.region [vM 21 5,
 vF 22 1 2,
 vL 23 1 22,
 vP 24 (.cvi .u8 (.s 23)),
 vP 25 (.ias 1 (.s 21) (vi 5)),
 ⟨none, none, .inl (.st 1 (.s 25) (.s 24))⟩])
 (.seq (.draw [vD (vM 26 5) 0,
 vD (vP 27 (.slc 1 (.s 26) (some (vi 6)) none none)) 1,
 vD (vF 28 1 3) 0,
 vD (vL 29 1 28) 4,
 vD (vP 30 (.cvi .u32 (.s 29))) 12,
 ⟨vN 31 9 [(.s 27), (.s 30)], none, [], 31, false⟩])
 (.seq (.region [vM 32 5,
 vF 33 1 4,
 vL 34 1 33,
 vP 35 (.cvi .u8 (.s 34)),
 vP 36 (.ias 1 (.s 32) (vi 10)),
 ⟨none, none, .inl (.st 1 (.s 36) (.s 35))⟩])
 (.seq (.draw [vD (vM 37 5) 0,
 vD (vP 38 (.slc 1 (.s 37) (some (vi 11)) none none)) 1,
 vD (vF 39 1 5) 0,
 vD (vP 40 (.ld true 2 (.s 39))) 4,
 ⟨vN 41 8 [(.s 38), (.s 40)], none, [], 15, false⟩])
 (.seq (.draw [vD (vM 42 5) 0,
 vD (vP 43 (.slc 1 (.s 42) (some (vi 16)) none none)) 1,
 vD (vF 44 1 7) 0,
 vD (vL 45 1 44) 4,
 vD (vP 46 (.lens (.s 45))) 12,
 vD (vP 47 (.cvi .u32 (.s 46))) 28,
 ⟨vN 48 9 [(.s 43), (.s 47)], none, [], 63, false⟩])
 (.seq (.draw [vD (vM 49 5) 0,
 vD (vP 50 (.slc 1 (.s 49) (some (vi 20)) none none)) 1,
 vD (vF 51 1 7) 0,
 vD (vL 52 1 51) 4,
 ⟨vP 53 (.cpy 1 (.s 50) (.s 52)), (some [.at 5]), [], 15, false⟩])
 (.seq (.region [vM 54 5,
 vM 2 54,
 vP 3 (.mv (vi 0))])
 (.ret)))))))))))
def k5 : Cd :=
  .seq (.region [⟨none, some 2, .inl (.alloc 25 [(.int .i64 0), (.int .i64 0), (.int .i64 0), (.int .i64 0), (.int .i64 0), (.int .i64 0), (.int .i64 0), (.string ⟨#[]⟩)])⟩,
 vP 3 (.mv (vi 0))])
 (.seq (.seq (.region [vM 6 0,
 vP 7 (.len (.s 6)),
 vN 8 10 [(.s 7), (vi 20), (vi 8020)],
 vP 9 (.not (.s 8)),
 vM 10 9,
 vU 10 11 (.mv (.s 0)),
 vU 10 12 (.slc 1 (.s 11) (some (vi 16)) none none),
 ⟨some (10, false), some 13, .inr (.fn 11 [(.s 12)])⟩,
 vU 10 14 (.cvi .i64 (.s 13)),
 vU 10 15 (.mv (.s 0)),
 vU 10 16 (.len (.s 15)),
 vU 10 17 (vc .sub 16 20),
 vU 10 18 (vb .neq 14 17),
 vP 19 (.pick (.s 10) (.c (.bool true)) (.s 18))])
 (.cond (.s 19) (.seq (.region [⟨none, some 20, .inl (.bld [(.int .i64 0), (.int .i64 0), (.int .i64 0), (.int .i64 0), (.int .i64 0), (.int .i64 0), (.int .i64 0), (.string ⟨#[]⟩)] [])⟩,
 ⟨none, none, .inl (.st 8 (.s 2) (.s 20))⟩,
 vP 3 (.mv (vi 80))])
 (.ret))
 (.skip)))
 (.seq (.draw [vD (vM 21 0) 0,
 ⟨vP 22 (.slc 1 (.s 21) (some (vi 0)) none none), some [], [.fr 4], 1, false⟩,
 ⟨vN 23 12 [(.s 22)], some [], [.fr 4], 3, false⟩,
 vD (vM 24 0) 0,
 vD (vP 25 (.ias 1 (.s 24) (vi 5))) 8,
 ⟨vL 26 1 25, some [], [.fr 4], 24, false⟩,
 vD (vP 27 (.cvi .i64 (.s 26))) 56,
 vD (vM 28 0) 0,
 ⟨vP 29 (.slc 1 (.s 28) (some (vi 6)) none none), some [], [.fr 4], 128, false⟩,
 ⟨vN 30 11 [(.s 29)], some [], [.fr 4], 391, false⟩,
 vD (vP 31 (.cvi .i64 (.s 30))) 903,
 vD (vM 32 0) 0,
 vD (vP 33 (.ias 1 (.s 32) (vi 10))) 2048,
 ⟨vL 34 1 33, some [], [.fr 4], 6144, false⟩,
 vD (vP 35 (.cvi .i64 (.s 34))) 14336,
 vD (vM 36 0) 0,
 ⟨vP 37 (.slc 1 (.s 36) (some (vi 11)) none none), some [], [.fr 4], 32768, false⟩,
 ⟨vN 38 12 [(.s 37)], some [], [.fr 4], 99207, false⟩,
 vD (vM 39 0) 0,
 ⟨vP 40 (.slc 1 (.s 39) (some (vi 20)) none none), some [], [.fr 4], 262144, false⟩,
 ⟨vP 41 (.b2s (.s 40)), some [], [.fr 4], 786432, false⟩,
 ⟨⟨none, some 42, .inl (.bld [(.int .i64 0), (.int .i64 0), (.int .i64 0), (.int .i64 0), (.int .i64 0), (.int .i64 0), (.int .i64 0), (.string ⟨#[]⟩)] [(0, 2, (.s 23)), (2, 1, (.s 27)), (3, 1, (.s 31)), (4, 1, (.s 35)), (5, 2, (.s 38)), (7, 1, (.s 41))])⟩, some [], [], 2097151, false⟩,
 ⟨⟨none, some 4, .inl (.alloc 25 [(.int .i64 0), (.int .i64 0), (.int .i64 0), (.int .i64 0), (.int .i64 0), (.int .i64 0), (.int .i64 0), (.string ⟨#[]⟩)])⟩, (some [.fr 4]), [], 0, false⟩,
 ⟨⟨none, none, .inl (.st 8 (.s 4) (.s 42))⟩, (some [.fr 4]), [], 8388607, false⟩])
 (.seq (.seq (.region [vP 43 (.ld true 8 (.s 4)),
 vN 44 7 [(.s 43)],
 vM 5 44])
 (.seq (.region [vM 45 5,
 vP 46 (vc .neq 45 0)])
 (.cond (.s 46) (.seq (.region [⟨none, some 47, .inl (.bld [(.int .i64 0), (.int .i64 0), (.int .i64 0), (.int .i64 0), (.int .i64 0), (.int .i64 0), (.int .i64 0), (.string ⟨#[]⟩)] [])⟩,
 vM 48 5,
 ⟨none, none, .inl (.st 8 (.s 2) (.s 47))⟩,
 vM 3 48])
 (.ret))
 (.skip))))
 (.seq (.region [vP 49 (.ld true 8 (.s 4)),
 ⟨none, none, .inl (.st 8 (.s 2) (.s 49))⟩,
 vP 3 (.mv (vi 0))])
 (.ret)))))
def k6 : Cd :=
  .seq (.region [vP 0 (.mv (.c (.bool false)))])
 (.seq (.region [vN 13 13 [],
 vP 14 (.bld [(.slice none 0 0)] [(0, 1, (.s 13))]),
 vP 1 (.alloc 44 [(.slice none 0 0)]),
 ⟨none, none, .inl (.st 1 (.s 1) (.s 14))⟩])
 (.seq (.region [vP 16 (.ld true 1 (.s 1)),
 vP 17 (.bld [(.int .i64 0), (.int .i64 0)] []),
 vN 18 14 [(.s 16), (.s 17), (vi 9)],
 vM 15 18,
 vP 19 (.ex (.s 15) 0),
 vP 20 (.ex (.s 15) 1),
 vP 2 (.alloc 23 [(.int .i64 0), (.int .i64 0)]),
 ⟨none, none, .inl (.st 2 (.s 2) (.s 19))⟩,
 vM 3 20])
 (.seq (.region [vP 22 (.ld true 1 (.s 1)),
 vP 23 (.bld [(.int .i64 0), (.int .i64 0)] []),
 vN 24 14 [(.s 22), (.s 23), (vi 10)],
 vM 21 24,
 vP 25 (.ex (.s 21) 0),
 vP 26 (.ex (.s 21) 1),
 vP 4 (.alloc 23 [(.int .i64 0), (.int .i64 0)]),
 ⟨none, none, .inl (.st 2 (.s 4) (.s 25))⟩,
 vM 5 26])
 (.seq (.region [vP 28 (.ld true 1 (.s 1)),
 vP 29 (.bld [(.int .i64 0), (.int .i64 0)] []),
 vN 30 14 [(.s 28), (.s 29), (vi 8)],
 vM 27 30,
 vP 31 (.ex (.s 27) 0),
 vP 32 (.ex (.s 27) 1),
 vP 6 (.alloc 23 [(.int .i64 0), (.int .i64 0)]),
 ⟨none, none, .inl (.st 2 (.s 6) (.s 31))⟩,
 vM 7 32])
 (.seq (.region [vN 34 15 [],
 vM 33 34,
 vP 35 (.ex (.s 33) 0),
 vP 36 (.ex (.s 33) 1),
 vP 8 (.alloc 51 [(.slice none 0 0), (.slice none 0 0), (.slice none 0 0), (.slice none 0 0)]),
 vP 9 (.alloc 53 [(.slice none 0 0), (.int .i64 0), (.int .i64 0)]),
 ⟨none, none, .inl (.st 4 (.s 8) (.s 35))⟩,
 ⟨none, none, .inl (.st 3 (.s 9) (.s 36))⟩])
 (.seq (.draw [⟨vP 38 (.ld true 4 (.s 8)), some [], [.fr 10, .fr 11], 0, false⟩,
 ⟨vP 39 (.ld true 3 (.s 9)), some [], [.fr 10, .fr 11], 0, false⟩,
 vD (vF 40 1 0) 0,
 ⟨vL 41 1 40, some [], [.fr 10, .fr 11], 4, false⟩,
 vD (vP 42 (.ias 8 (.s 41) (vi 0))) 12,
 ⟨vP 43 (.ld true 8 (.s 42)), some [], [.fr 10, .fr 11], 28, false⟩,
 ⟨vN 44 16 [(.s 38), (.s 39), (.s 43)], some [], [.fr 10, .fr 11], 63, false⟩,
 vD (vM 37 44) 127,
 vD (vP 45 (.ex (.s 37) 0)) 255,
 vD (vP 46 (.ex (.s 37) 1)) 255,
 vD (vP 47 (.ex (.s 37) 2)) 255,
 ⟨vP 10 (.alloc 51 [(.slice none 0 0), (.slice none 0 0), (.slice none 0 0), (.slice none 0 0)]), (some [.fr 10]), [.fr 11], 0, false⟩,
 ⟨vP 11 (.alloc 53 [(.slice none 0 0), (.int .i64 0), (.int .i64 0)]), (some [.fr 11]), [.fr 10], 0, false⟩,
 ⟨⟨none, none, .inl (.st 4 (.s 10) (.s 45))⟩, (some [.fr 10]), [], 6655, false⟩,
 ⟨⟨none, none, .inl (.st 3 (.s 11) (.s 46))⟩, (some [.fr 11]), [], 15359, false⟩,
 vD (vM 12 47) 32767])
 (.seq (.region [vP 48 (.ld true 2 (.s 2)),
 vP 49 (.bld [(.int .i64 0), (.int .i64 0)] [(1, 1, (vi 1))]),
 vP 50 (.eq false (.cells [.int, .int]) (.s 48) (.s 49)),
 vM 51 50,
 vT 51 52 (.mv (.s 3)),
 vT 51 53 (vc .eql 52 0),
 vP 54 (.pick (.s 51) (.s 53) (.c (.bool false))),
 vM 55 54,
 vT 55 56 (.ld true 2 (.s 4)),
 vT 55 57 (.bld [(.int .i64 0), (.int .i64 0)] []),
 vT 55 58 (.eq false (.cells [.int, .int]) (.s 56) (.s 57)),
 vP 59 (.pick (.s 55) (.s 58) (.c (.bool false))),
 vM 60 59,
 vT 60 61 (.mv (.s 5)),
 vT 60 62 (vc .eql 61 0),
 vP 63 (.pick (.s 60) (.s 62) (.c (.bool false))),
 vM 64 63,
 vT 64 65 (.mv (.s 7)),
 vT 64 66 (vc .eql 65 4),
 vP 67 (.pick (.s 64) (.s 66) (.c (.bool false))),
 vM 68 67,
 vT 68 69 (.ld true 1 (.s 1)),
 ⟨some (68, true), some 70, .inr (.fn 18 [(.s 69), (vi 8)])⟩,
 vT 68 71 (.bst 3 1 1 [(.int .i64 0)] [(0, (vi 2))]),
 ⟨some (68, true), some 72, .inr (.fn 17 [(.s 70), (.s 71)])⟩,
 vP 73 (.pick (.s 68) (.s 72) (.c (.bool false))),
 vM 74 73,
 vT 74 75 (.bs 5 1 9 [(.int .u8 0)] [(0, (.c (.int .u8 49))), (1, (.c (.int .u8 50))), (2, (.c (.int .u8 51))), (3, (.c (.int .u8 52))), (4, (.c (.int .u8 53))), (5, (.c (.int .u8 54))), (6, (.c (.int .u8 55))), (7, (.c (.int .u8 56))), (8, (.c (.int .u8 57)))]),
 vT 74 76 (.cbs (.s 75)),
 ⟨some (74, true), some 77, .inr (.fn 19 [(.s 76)])⟩,
 vT 74 78 (.bin .eql (.s 77) (.c (.int .u32 3421780262))),
 vP 79 (.pick (.s 74) (.s 78) (.c (.bool false))),
 vM 80 79,
 vT 80 81 (.mv (.s 12)),
 vT 80 82 (vc .eql 81 0),
 vP 83 (.pick (.s 80) (.s 82) (.c (.bool false))),
 vM 84 83,
 vT 84 85 (.fa (.s 11) 0),
 vT 84 86 (.fa (.s 85) 0),
 vT 84 87 (.ld false 1 (.s 86)),
 vT 84 88 (.len (.s 87)),
 vT 84 89 (vc .eql 88 1),
 vP 90 (.pick (.s 84) (.s 89) (.c (.bool false))),
 vM 91 90,
 vT 91 92 (.fa (.s 11) 2),
 vT 91 93 (.ld false 1 (.s 92)),
 vT 91 94 (vc .eql 93 1),
 vP 95 (.pick (.s 91) (.s 94) (.c (.bool false))),
 vM 0 95])
 (.ret))))))))
def k7 : Cd :=
  .seq (.region [vP 1 (.box 25 8 (.s 0)),
 vP 2 (.mv (vi 0))])
 (.seq (.seq (.region [vF 3 1 0,
 vP 4 (.ld true 2 (.s 3)),
 vN 5 20 [(.s 4)],
 vP 6 (.not (.s 5)),
 vM 7 6,
 vU 7 8 (.ld true 8 (.s 1)),
 ⟨some (7, false), some 9, .inr (.fn 21 [(.s 8)])⟩,
 vU 7 10 (.not (.s 9)),
 vP 11 (.pick (.s 7) (.c (.bool true)) (.s 10)),
 vM 12 11,
 vU 12 13 (.fa (.s 1) 3),
 vU 12 14 (.ld false 1 (.s 13)),
 ⟨some (12, false), some 15, .inr (.fn 10 [(.s 14), (vi 0), (vi 100000)])⟩,
 vU 12 16 (.not (.s 15)),
 vP 17 (.pick (.s 12) (.c (.bool true)) (.s 16)),
 vM 18 17,
 vU 18 19 (.fa (.s 1) 4),
 vU 18 20 (.ld false 1 (.s 19)),
 ⟨some (18, false), some 21, .inr (.fn 10 [(.s 20), (vi 0), (vi 99)])⟩,
 vU 18 22 (.not (.s 21)),
 vP 23 (.pick (.s 18) (.c (.bool true)) (.s 22))])
 (.cond (.s 23) (.seq (.region [vP 2 (.mv (vi 80))])
 (.ret))
 (.skip)))
 (.seq (.region [vP 2 (.mv (vi 0))])
 (.ret)))
def k8 : Cd :=
  .seq (.region [vP 3 (.box 23 2 (.s 1))])
 (.seq (.region [vM 4 0,
 vF 5 3 0,
 vL 6 1 5,
 vP 7 (.cvi .u8 (.s 6)),
 vP 8 (.ias 1 (.s 4) (vi 0)),
 ⟨none, none, .inl (.st 1 (.s 8) (.s 7))⟩])
 (.draw [vD (vM 9 0) 0,
 vD (vP 10 (.slc 1 (.s 9) (some (vi 1)) none none)) 1,
 vD (vF 11 3 1) 0,
 vD (vL 12 1 11) 4,
 vD (vP 13 (.cvi .u32 (.s 12))) 12,
 ⟨vN 14 9 [(.s 10), (.s 13)], none, [], 31, false⟩]))
def k9l0 : Cd :=
  .seq (.region [vP 6 (vc .lss 5 4)])
 (.seq (.cond (.s 6) (.skip)
 (.exit 0))
 (.seq (.block 1 (.seq (.region [vM 7 5,
 vM 4 7])
 (.region [vM 8 0,
 vM 9 4,
 vM 10 1,
 vM 11 4,
 vP 12 (.bin .mul (vi 8) (.s 11)),
 vP 13 (.bin .sub (vi 24) (.s 12)),
 vP 14 (vb .shr 10 13),
 vP 15 (.cvi .u8 (.s 14)),
 vI 16 1 8 9,
 ⟨none, none, .inl (.st 1 (.s 16) (.s 15))⟩])))
 (.region [vP 17 (vc .add 5 1),
 vM 5 17])))
def k9 : Cd :=
  .seq (.region [vP 5 (.mv (vi 0))])
 (.block 0 (.loop k9l0))
def k10 : Cd :=
  .seq (.region [vP 6 (.mv (.c (.bool false)))])
 (.seq (.region [vM 7 1,
 vM 8 0,
 vP 9 (vb .leq 7 8),
 vM 10 9,
 vT 10 11 (.mv (.s 0)),
 vT 10 12 (.mv (.s 2)),
 vT 10 13 (vb .leq 11 12),
 vP 14 (.pick (.s 10) (.s 13) (.c (.bool false))),
 vM 6 14])
 (.ret))
def k11l0 : Cd :=
  .seq (.region [vP 10 (vb .lss 9 8)])
 (.seq (.cond (.s 10) (.skip)
 (.exit 0))
 (.seq (.block 1 (.seq (.region [vI 11 1 7 9,
 vL 12 1 11,
 vM 5 12])
 (.region [vM 13 3,
 vP 14 (.bin .shl (.s 13) (.c (.int .u64 8))),
 vM 15 5,
 vP 16 (.cvi .u32 (.s 15)),
 vP 17 (vb .or 14 16),
 vM 3 17])))
 (.region [vP 18 (vc .add 9 1),
 vM 9 18])))
def k11 : Cd :=
  .seq (.region [vP 2 (.mv (.c (.int .u32 0)))])
 (.seq (.region [vP 3 (.mv (.c (.int .u32 0)))])
 (.seq (.seq (.region [vM 6 0,
 vP 7 (.slc 1 (.s 6) none (some (vi 4)) none),
 vP 8 (.len (.s 7)),
 vP 9 (.mv (vi 0))])
 (.block 0 (.loop k11l0)))
 (.seq (.region [vM 19 3,
 vM 2 19])
 (.ret))))
def k12 : Cd :=
  .seq (.region [vP 2 (.alloc 23 [(.int .i64 0), (.int .i64 0)])])
 (.seq (.draw [vD (vM 3 0) 0,
 vD (vP 4 (.ias 1 (.s 3) (vi 0))) 1,
 vD (vL 5 1 4) 3,
 vD (vP 6 (.cvi .i64 (.s 5))) 7,
 vD (vM 7 0) 0,
 vD (vP 8 (.slc 1 (.s 7) (some (vi 1)) none none)) 16,
 vD (vN 9 11 [(.s 8)]) 48,
 vD (vP 10 (.cvi .i64 (.s 9))) 112,
 vD (vP 11 (.bld [(.int .i64 0), (.int .i64 0)] [(0, 1, (.s 6)), (1, 1, (.s 10))])) 255,
 ⟨⟨none, none, .inl (.st 2 (.s 2) (.s 11))⟩, (some [.at 2]), [], 511, false⟩])
 (.ret))
def k13 : Cd :=
  .seq (.region [vP 0 (.mv (.c (.slice none 0 0)))])
 (.seq (.region [vP 1 (.bld [(.int .i64 0), (.int .i64 0)] []),
 ⟨none, some 2, .inl (.bld [(.int .i64 0), (.int .i64 0), (.int .i64 0), (.int .i64 0), (.int .i64 0), (.int .i64 0), (.int .i64 0), (.string ⟨#[]⟩)] [(0, 2, (.s 1)), (2, 1, (vi 1)), (3, 1, (vi 5))])⟩,
 vP 3 (.bld [(.int .i64 0), (.int .i64 0)] [(1, 1, (vi 1))]),
 ⟨none, some 4, .inl (.bld [(.int .i64 0), (.int .i64 0), (.int .i64 0), (.int .i64 0), (.int .i64 0), (.int .i64 0), (.int .i64 0), (.string ⟨#[]⟩)] [(0, 2, (.s 3)), (2, 1, (vi 6)), (3, 1, (vi 7))])⟩,
 vP 5 (.bld [(.int .i64 0), (.int .i64 0)] [(0, 1, (vi 1))]),
 ⟨none, some 6, .inl (.bld [(.int .i64 0), (.int .i64 0), (.int .i64 0), (.int .i64 0), (.int .i64 0), (.int .i64 0), (.int .i64 0), (.string ⟨#[]⟩)] [(0, 2, (.s 5)), (2, 1, (vi 1)), (3, 1, (vi 6))])⟩,
 vP 7 (.bld [(.int .i64 0), (.int .i64 0)] [(0, 1, (vi 1)), (1, 1, (vi 1))]),
 vP 8 (.bld [(.int .i64 0), (.int .i64 0)] [(1, 1, (vi 1))]),
 ⟨none, some 9, .inl (.bld [(.int .i64 0), (.int .i64 0), (.int .i64 0), (.int .i64 0), (.int .i64 0), (.int .i64 0), (.int .i64 0), (.string ⟨#[]⟩)] [(0, 2, (.s 7)), (2, 1, (vi 8)), (3, 1, (vi 8)), (5, 2, (.s 8))])⟩,
 vP 10 (.bld [(.int .i64 0), (.int .i64 0)] [(0, 1, (vi 1)), (1, 1, (vi 2))]),
 vP 11 (.bld [(.int .i64 0), (.int .i64 0)] [(1, 1, (vi 1))]),
 ⟨none, some 12, .inl (.bld [(.int .i64 0), (.int .i64 0), (.int .i64 0), (.int .i64 0), (.int .i64 0), (.int .i64 0), (.int .i64 0), (.string ⟨#[]⟩)] [(0, 2, (.s 10)), (2, 1, (vi 7)), (3, 1, (vi 10)), (5, 2, (.s 11))])⟩,
 vP 13 (.bld [(.int .i64 0), (.int .i64 0)] [(0, 1, (vi 2))]),
 vP 14 (.bld [(.int .i64 0), (.int .i64 0)] [(1, 1, (vi 1))]),
 ⟨none, some 15, .inl (.bld [(.int .i64 0), (.int .i64 0), (.int .i64 0), (.int .i64 0), (.int .i64 0), (.int .i64 0), (.int .i64 0), (.string ⟨#[]⟩)] [(0, 2, (.s 13)), (2, 1, (vi 9)), (3, 1, (vi 9)), (5, 2, (.s 14))])⟩,
 ⟨none, some 16, .inl (.bs 25 8 6 [(.int .i64 0), (.int .i64 0), (.int .i64 0), (.int .i64 0), (.int .i64 0), (.int .i64 0), (.int .i64 0), (.string ⟨#[]⟩)] [(0, (.s 2)), (1, (.s 4)), (2, (.s 6)), (3, (.s 9)), (4, (.s 12)), (5, (.s 15))])⟩,
 vM 0 16])
 (.ret))
def k14 : Cd :=
  .seq (.region [vP 3 (.box 44 1 (.s 0)),
 vP 4 (.box 23 2 (.s 1)),
 vP 6 (.alloc 23 [(.int .i64 0), (.int .i64 0)]),
 vP 7 (.mv (vi 0))])
 (.seq (.seq (.region [vP 12 (.ld true 1 (.s 3)),
 vN 13 22 [(.s 12)],
 vM 8 13])
 (.seq (.region [vM 14 8,
 vP 15 (vc .neq 14 0)])
 (.cond (.s 15) (.seq (.region [vP 16 (.bld [(.int .i64 0), (.int .i64 0)] []),
 vM 17 8,
 ⟨none, none, .inl (.st 2 (.s 6) (.s 16))⟩,
 vM 7 17])
 (.ret))
 (.skip))))
 (.seq (.region [vP 18 (.ld true 1 (.s 3)),
 vM 19 2,
 vP 20 (.bld [(.slice none 0 0), (.int .i64 0)] [(0, 1, (.s 18)), (1, 1, (.s 19))]),
 vP 9 (.alloc 66 [(.slice none 0 0), (.int .i64 0)]),
 ⟨none, none, .inl (.st 2 (.s 9) (.s 20))⟩])
 (.seq (.region [vF 21 3 0,
 vL 22 1 21,
 vP 23 (.mkf (.func 24) [] [(.s 4), (.s 9)]),
 vN 24 23 [(.s 22), (.s 23)],
 vM 10 24])
 (.seq (.seq (.region [vM 25 10,
 vP 26 (.bin .eql (.s 25) (.c (.int .i64 (-1))))])
 (.cond (.s 26) (.seq (.region [vP 27 (.bld [(.int .i64 0), (.int .i64 0)] []),
 ⟨none, none, .inl (.st 2 (.s 6) (.s 27))⟩,
 vP 7 (.mv (vi 80))])
 (.ret))
 (.skip)))
 (.seq (.region [vF 28 3 0,
 vL 29 1 28,
 vM 30 10,
 vI 31 8 29 30,
 vP 32 (.ld true 8 (.s 31)),
 ⟨none, some 11, .inl (.alloc 25 [(.int .i64 0), (.int .i64 0), (.int .i64 0), (.int .i64 0), (.int .i64 0), (.int .i64 0), (.int .i64 0), (.string ⟨#[]⟩)])⟩,
 ⟨none, none, .inl (.st 8 (.s 11) (.s 32))⟩])
 (.seq (.seq (.region [vP 33 (.ld true 2 (.s 9)),
 vP 34 (.ld true 8 (.s 11)),
 vN 35 27 [(.s 33), (.s 34)],
 vP 36 (.not (.s 35))])
 (.cond (.s 36) (.seq (.region [vP 37 (.bld [(.int .i64 0), (.int .i64 0)] []),
 ⟨none, none, .inl (.st 2 (.s 6) (.s 37))⟩,
 vP 7 (.mv (vi 4))])
 (.ret))
 (.skip)))
 (.seq (.region [vP 38 (.ld true 2 (.s 9)),
 vP 39 (.ld true 8 (.s 11)),
 vN 40 28 [(.s 38), (.s 39)],
 vP 41 (.fd true 2 0 (.s 40)),
 ⟨none, none, .inl (.st 2 (.s 6) (.s 41))⟩,
 vP 7 (.mv (vi 0))])
 (.ret))))))))
def k15 : Cd :=
  .seq (.region [vP 0 (.alloc 51 [(.slice none 0 0), (.slice none 0 0), (.slice none 0 0), (.slice none 0 0)]),
 vP 1 (.alloc 53 [(.slice none 0 0), (.int .i64 0), (.int .i64 0)])])
 (.seq (.region [vP 2 (.alloc 51 [(.slice none 0 0), (.slice none 0 0), (.slice none 0 0), (.slice none 0 0)])])
 (.seq (.region [vN 3 30 [(vi 1)],
 vN 4 31 [],
 vP 5 (.bst 26 1 2 [(.slice none 0 0)] [(0, (.s 3)), (1, (.s 4))]),
 vN 6 29 [(.s 5)],
 vF 7 2 0,
 vP 8 (.iaa 2 2 (.s 7) (vi 0)),
 vF 9 8 0,
 ⟨none, none, .inl (.st 1 (.s 9) (.s 6))⟩])
 (.seq (.region [vP 10 (.ld true 4 (.s 2)),
 vP 11 (.bld [(.slice none 0 0), (.int .i64 0), (.int .i64 0)] [(2, 1, (vi 1))]),
 ⟨none, none, .inl (.st 4 (.s 0) (.s 10))⟩,
 ⟨none, none, .inl (.st 3 (.s 1) (.s 11))⟩])
 (.ret))))
def k16 : Cd :=
  .seq (.region [vP 3 (.box 51 4 (.s 0)),
 vP 4 (.box 53 3 (.s 1)),
 vP 5 (.box 25 8 (.s 2)),
 vP 6 (.alloc 51 [(.slice none 0 0), (.slice none 0 0), (.slice none 0 0), (.slice none 0 0)]),
 vP 7 (.alloc 53 [(.slice none 0 0), (.int .i64 0), (.int .i64 0)]),
 vP 8 (.mv (vi 0))])
 (.seq (.seq (.region [vP 14 (.ld true 4 (.s 3)),
 vP 15 (.ld true 3 (.s 4)),
 vN 16 32 [(.s 14), (.s 15)],
 vP 17 (.not (.s 16))])
 (.cond (.s 17) (.seq (.region [vP 18 (.bld [(.slice none 0 0), (.slice none 0 0), (.slice none 0 0), (.slice none 0 0)] []),
 vP 19 (.bld [(.slice none 0 0), (.int .i64 0), (.int .i64 0)] []),
 ⟨none, none, .inl (.st 4 (.s 6) (.s 18))⟩,
 ⟨none, none, .inl (.st 3 (.s 7) (.s 19))⟩,
 vP 8 (.mv (vi 83))])
 (.ret))
 (.skip)))
 (.seq (.region [vF 21 4 0,
 vP 22 (.ld true 1 (.s 21)),
 vP 23 (.ld true 8 (.s 5)),
 vN 24 33 [(.s 22), (.s 23)],
 vM 20 24,
 vP 25 (.ex (.s 20) 0),
 vP 26 (.ex (.s 20) 1),
 vP 9 (.alloc 44 [(.slice none 0 0)]),
 ⟨none, none, .inl (.st 1 (.s 9) (.s 25))⟩,
 vM 10 26])
 (.seq (.seq (.region [vM 27 10,
 vP 28 (vc .neq 27 0)])
 (.cond (.s 28) (.seq (.region [vP 29 (.bld [(.slice none 0 0), (.slice none 0 0), (.slice none 0 0), (.slice none 0 0)] []),
 vP 30 (.bld [(.slice none 0 0), (.int .i64 0), (.int .i64 0)] []),
 vM 31 10,
 ⟨none, none, .inl (.st 4 (.s 6) (.s 29))⟩,
 ⟨none, none, .inl (.st 3 (.s 7) (.s 30))⟩,
 vM 8 31])
 (.ret))
 (.skip)))
 (.seq (.region [vP 32 (.ld true 1 (.s 9)),
 vF 33 4 0,
 vP 34 (.ld true 1 (.s 33)),
 vN 35 34 [(.s 32), (.s 34)],
 vM 11 35])
 (.seq (.region [vP 36 (.ld true 1 (.s 9)),
 vF 37 4 0,
 ⟨none, none, .inl (.st 1 (.s 37) (.s 36))⟩])
 (.seq (.seq (.region [vM 38 11])
 (.cond (.s 38) (.seq (.draw [vD (vP 39 (.ld true 4 (.s 3))) 0,
 ⟨vN 40 35 [(.s 39)], none, [.av 4], 1, false⟩,
 ⟨vP 41 (.ld true 3 (.s 4)), some [], [.keep 4], 0, false⟩,
 ⟨⟨none, none, .inl (.st 4 (.s 6) (.s 40))⟩, (some [.at 6]), [.av 4], 3, false⟩,
 ⟨⟨none, none, .inl (.st 3 (.s 7) (.s 41))⟩, (some [.at 7]), [], 15, false⟩,
 vD (vP 8 (.mv (vi 0))) 31])
 (.ret))
 (.skip)))
 (.seq (.region [vP 43 (.ld true 8 (.s 5)),
 vN 44 36 [(.s 43)],
 vM 42 44,
 vP 45 (.ex (.s 42) 0),
 vP 46 (.ex (.s 42) 1),
 vM 12 45,
 vM 13 46])
 (.seq (.seq (.region [vF 47 4 1,
 vL 48 1 47,
 vF 49 3 0,
 vP 50 (.iaa 2 2 (.s 49) (.s 48)),
 vP 51 (.ld true 2 (.s 50)),
 vN 52 37 [(.s 51)],
 vM 53 12,
 vP 54 (.len (.s 53)),
 vP 55 (vb .add 52 54),
 vP 56 (vc .gtr 55 200000)])
 (.cond (.s 56) (.seq (.region [vP 57 (.bld [(.slice none 0 0), (.slice none 0 0), (.slice none 0 0), (.slice none 0 0)] []),
 vP 58 (.bld [(.slice none 0 0), (.int .i64 0), (.int .i64 0)] []),
 ⟨none, none, .inl (.st 4 (.s 6) (.s 57))⟩,
 ⟨none, none, .inl (.st 3 (.s 7) (.s 58))⟩,
 vP 8 (.mv (vi 84))])
 (.ret))
 (.skip)))
 (.seq (.draw [vD (vF 59 4 1) 0,
 vD (vL 60 1 59) 1,
 vD (vM 61 12) 0,
 ⟨vN 62 38 [(.s 60), (.s 61)], (some [.at 12]), [], 7, false⟩,
 ⟨vP 63 (.ld true 4 (.s 3)), some [], [.at 12], 0, false⟩,
 ⟨⟨none, some 64, .inr (.val false (.s 62) [(.s 63)])⟩, some [], [], 31, false⟩,
 ⟨vP 65 (.ld true 3 (.s 4)), some [], [.at 12, .at 6], 0, false⟩,
 ⟨⟨none, none, .inl (.st 4 (.s 6) (.s 64))⟩, (some [.at 6]), [], 63, false⟩,
 ⟨⟨none, none, .inl (.st 3 (.s 7) (.s 65))⟩, (some [.at 7]), [], 255, false⟩,
 vD (vP 8 (.mv (vi 0))) 511])
 (.ret))))))))))
def k17l0 : Cd :=
  .seq (.region [vP 14 (vb .lss 13 12)])
 (.seq (.cond (.s 14) (.skip)
 (.exit 0))
 (.seq (.block 1 (.seq (.region [vM 15 13,
 vM 5 15])
 (.seq (.draw [vD (vM 16 0) 0,
 vD (vM 17 5) 0,
 vD (vI 18 1 16 17) 3,
 vD (vL 19 1 18) 7,
 vD (vM 20 1) 0,
 vD (vM 21 5) 0,
 vD (vI 22 1 20 21) 48,
 vD (vL 23 1 22) 112,
 vD (vP 24 (vb .neq 19 23)) 255])
 (.cond (.s 24) (.seq (.region [vP 4 (.mv (.c (.bool false)))])
 (.ret))
 (.skip)))))
 (.region [vP 25 (vc .add 13 1),
 vM 13 25])))
def k17 : Cd :=
  .seq (.region [vP 4 (.mv (.c (.bool false)))])
 (.seq (.seq (.region [vM 6 0,
 vP 7 (.len (.s 6)),
 vM 8 1,
 vP 9 (.len (.s 8)),
 vP 10 (vb .neq 7 9)])
 (.cond (.s 10) (.seq (.region [vP 4 (.mv (.c (.bool false)))])
 (.ret))
 (.skip)))
 (.seq (.seq (.region [vM 11 0,
 vP 12 (.len (.s 11)),
 vP 13 (.mv (vi 0))])
 (.block 0 (.loop k17l0)))
 (.seq (.region [vP 4 (.mv (.c (.bool true)))])
 (.ret))))
def k18l0 : Cd :=
  .seq (.region [vP 19 (vb .lss 18 17)])
 (.seq (.cond (.s 19) (.skip)
 (.exit 0))
 (.seq (.block 1 (.seq (.region [vM 20 18,
 vI 21 8 16 18,
 vP 22 (.ld true 8 (.s 21)),
 ⟨none, some 8, .inl (.alloc 25 [(.int .i64 0), (.int .i64 0), (.int .i64 0), (.int .i64 0), (.int .i64 0), (.int .i64 0), (.int .i64 0), (.string ⟨#[]⟩)])⟩,
 vM 7 20,
 ⟨none, none, .inl (.st 8 (.s 8) (.s 22))⟩])
 (.seq (.region [vP 23 (.ld true 2 (.s 5)),
 vP 24 (.ld true 8 (.s 8)),
 vN 25 27 [(.s 23), (.s 24)]])
 (.cond (.s 25) (.region [vM 26 6,
 vM 27 7,
 vP 28 (.bs 3 1 1 [(.int .i64 0)] [(0, (.s 27))]),
 vP 29 (.app 3 1 8 (.s 26) (.s 28)),
 vM 6 29])
 (.skip)))))
 (.region [vP 30 (vc .add 18 1),
 vM 18 30])))
def k18 : Cd :=
  .seq (.region [vP 2 (.box 44 1 (.s 0)),
 vP 4 (.mv (.c (.slice none 0 0)))])
 (.seq (.seq (.region [vP 9 (.ld true 1 (.s 2)),
 vN 10 22 [(.s 9)],
 vP 11 (vc .neq 10 0)])
 (.cond (.s 11) (.seq (.region [vP 4 (.mv (.c (.slice none 0 0)))])
 (.ret))
 (.skip)))
 (.seq (.region [vP 12 (.ld true 1 (.s 2)),
 vM 13 1,
 vP 14 (.bld [(.slice none 0 0), (.int .i64 0)] [(0, 1, (.s 12)), (1, 1, (.s 13))]),
 vP 5 (.alloc 66 [(.slice none 0 0), (.int .i64 0)]),
 ⟨none, none, .inl (.st 2 (.s 5) (.s 14))⟩])
 (.seq (.region [vP 6 (.mv (.c (.slice none 0 0)))])
 (.seq (.seq (.region [vF 15 2 0,
 vL 16 1 15,
 vP 17 (.len (.s 16)),
 vP 18 (.mv (vi 0))])
 (.block 0 (.loop k18l0)))
 (.seq (.region [vM 31 6,
 vM 4 31])
 (.ret))))))
def k19l0 : Cd :=
  .seq (.region [vP 17 (vc .lss 16 8)])
 (.seq (.cond (.s 17) (.skip)
 (.exit 2))
 (.seq (.block 3 (.region [vM 18 3,
 vP 19 (.bin .shr (.s 18) (.c (.int .u64 1))),
 vM 20 3,
 vP 21 (.bin .and (.s 20) (.c (.int .u32 1))),
 vP 22 (.bin .mul (.c (.int .u32 3988292384)) (.s 21)),
 vP 23 (vb .xor 19 22),
 vM 3 23]))
 (.region [vP 24 (vc .add 16 1),
 vM 16 24])))
def k19l1 : Cd :=
  .seq (.region [vP 9 (vb .lss 8 7)])
 (.seq (.cond (.s 9) (.skip)
 (.exit 0))
 (.seq (.block 1 (.seq (.region [vI 10 1 6 8,
 vL 11 1 10,
 vM 5 11])
 (.seq (.region [vM 12 3,
 vM 13 5,
 vP 14 (.cvi .u32 (.s 13)),
 vP 15 (vb .xor 12 14),
 vM 3 15])
 (.seq (.region [vP 16 (.mv (vi 0))])
 (.block 2 (.loop k19l0))))))
 (.region [vP 25 (vc .add 8 1),
 vM 8 25])))
def k19 : Cd :=
  .seq (.region [vP 2 (.mv (.c (.int .u32 0)))])
 (.seq (.region [vP 3 (.mv (.c (.int .u32 4294967295)))])
 (.seq (.seq (.region [vM 6 0,
 vP 7 (.len (.s 6)),
 vP 8 (.mv (vi 0))])
 (.block 0 (.loop k19l1)))
 (.seq (.region [vM 26 3,
 vP 27 (.cpl (.s 26)),
 vM 2 27])
 (.ret))))
def k20 : Cd :=
  .seq (.region [vP 1 (.box 23 2 (.s 0)),
 vP 2 (.mv (.c (.bool false)))])
 (.seq (.region [vF 3 1 0,
 vL 4 1 3,
 vN 5 39 [(.s 4)],
 vM 6 5,
 vT 6 7 (.fa (.s 1) 1),
 vT 6 8 (.ld false 1 (.s 7)),
 ⟨some (6, true), some 9, .inr (.fn 10 [(.s 8), (vi 0), (vi 9999)])⟩,
 vP 10 (.pick (.s 6) (.s 9) (.c (.bool false))),
 vM 2 10])
 (.ret))
def k21 : Cd :=
  .seq (.region [vP 1 (.box 25 8 (.s 0)),
 vP 2 (.mv (.c (.bool false)))])
 (.seq (.seq (.region [vP 4 (.ld true 8 (.s 1)),
 vN 5 25 [(.s 4)]])
 (.cond (.s 5) (.seq (.region [vF 6 1 5,
 vP 7 (.ld true 2 (.s 6)),
 vP 8 (.bld [(.int .i64 0), (.int .i64 0)] []),
 vP 9 (.eq false (.cells [.int, .int]) (.s 7) (.s 8)),
 vM 10 9,
 vT 10 11 (.fa (.s 1) 7),
 vT 10 12 (.ld false 1 (.s 11)),
 vT 10 13 (.lens (.s 12)),
 vT 10 14 (vc .leq 13 8000),
 vP 15 (.pick (.s 10) (.s 14) (.c (.bool false))),
 vM 2 15])
 (.ret))
 (.skip)))
 (.seq (.region [vP 3 (.mv (vi 0))])
 (.seq (.seq (.region [vF 16 1 2,
 vL 17 1 16,
 vP 18 (vc .eql 17 6)])
 (.cond (.s 18) (.region [vP 3 (.mv (vi 8000))])
 (.skip)))
 (.seq (.region [vF 19 1 2,
 vL 20 1 19,
 vN 21 10 [(.s 20), (vi 6), (vi 9)],
 vM 22 21,
 vT 22 23 (.fa (.s 1) 5),
 vT 22 24 (.ld true 2 (.s 23)),
 ⟨some (22, true), some 25, .inr (.fn 20 [(.s 24)])⟩,
 vP 26 (.pick (.s 22) (.s 25) (.c (.bool false))),
 vM 27 26,
 vT 27 28 (.fa (.s 1) 7),
 vT 27 29 (.ld false 1 (.s 28)),
 vT 27 30 (.lens (.s 29)),
 vT 27 31 (.mv (.s 3)),
 vT 27 32 (vb .leq 30 31),
 vP 33 (.pick (.s 27) (.s 32) (.c (.bool false))),
 vM 2 33])
 (.ret)))))
def k22l0 : Cd :=
  .seq (.region [vP 13 (vb .lss 12 11)])
 (.seq (.cond (.s 13) (.skip)
 (.exit 0))
 (.seq (.block 1 (.seq (.region [vM 14 12,
 vI 15 8 10 12,
 vP 16 (.ld true 8 (.s 15)),
 ⟨none, some 4, .inl (.alloc 25 [(.int .i64 0), (.int .i64 0), (.int .i64 0), (.int .i64 0), (.int .i64 0), (.int .i64 0), (.int .i64 0), (.string ⟨#[]⟩)])⟩,
 vM 3 14,
 ⟨none, none, .inl (.st 8 (.s 4) (.s 16))⟩])
 (.seq (.draw [vD (vP 17 (.ld true 8 (.s 4))) 0,
 vD (vN 18 7 [(.s 17)]) 1,
 vD (vP 19 (vc .neq 18 0)) 3,
 vD (vM 20 19) 7,
 vD (vU 20 21 (.mv (.s 3))) 15,
 vD (vU 20 22 (vc .gtr 21 0)) 31,
 vD (vU 20 23 (.mv (.s 22))) 63,
 vD (vT 23 24 (.fa (.s 1) 0)) 127,
 vD (vT 23 25 (.ld false 1 (.s 24))) 255,
 vD (vT 23 26 (.mv (.s 3))) 127,
 vD (vT 23 27 (vc .sub 26 1)) 639,
 vD (vT 23 28 (.ias 8 (.s 25) (.s 27))) 2047,
 vD (vT 23 29 (.fa (.s 28) 0)) 4095,
 vD (vT 23 30 (.ld true 2 (.s 29))) 8191,
 vD (vT 23 31 (.fa (.s 4) 0)) 127,
 vD (vT 23 32 (.ld true 2 (.s 31))) 16511,
 ⟨⟨some (23, true), some 33, .inr (.fn 40 [(.s 30), (.s 32)])⟩, some [], [], 65535, false⟩,
 vD (vT 23 34 (vc .geq 33 0)) 131071,
 vD (vU 20 35 (.pick (.s 23) (.s 34) (.c (.bool false)))) 262143,
 vD (vP 36 (.pick (.s 20) (.c (.bool true)) (.s 35))) 524287])
 (.cond (.s 36) (.seq (.region [vP 2 (.mv (vi 81))])
 (.ret))
 (.skip)))))
 (.region [vP 37 (vc .add 12 1),
 vM 12 37])))
def k22 : Cd :=
  .seq (.region [vP 1 (.box 44 1 (.s 0)),
 vP 2 (.mv (vi 0))])
 (.seq (.seq (.region [vF 5 1 0,
 vL 6 1 5,
 vP 7 (.len (.s 6)),
 vP 8 (vc .gtr 7 200)])
 (.cond (.s 8) (.seq (.region [vP 2 (.mv (vi 81))])
 (.ret))
 (.skip)))
 (.seq (.seq (.region [vF 9 1 0,
 vL 10 1 9,
 vP 11 (.len (.s 10)),
 vP 12 (.mv (vi 0))])
 (.block 0 (.loop k22l0)))
 (.seq (.region [vP 2 (.mv (vi 0))])
 (.ret))))
def k23l0 : Cd :=
  .seq (.region [vP 9 (vb .lss 8 7)])
 (.seq (.cond (.s 9) (.skip)
 (.exit 0))
 (.seq (.block 1 (.seq (.region [vM 10 8,
 vM 5 10])
 (.seq (.region [vM 11 1,
 vM 12 0,
 vM 13 5,
 vI 14 8 12 13,
 vP 15 (.ld true 8 (.s 14)),
 ⟨none, some 16, .inr (.val false (.s 11) [(.s 15)])⟩])
 (.cond (.s 16) (.seq (.region [vM 17 5,
 vM 4 17])
 (.ret))
 (.skip)))))
 (.region [vP 18 (vc .add 8 1),
 vM 8 18])))
def k23 : Cd :=
  .seq (.region [vP 4 (.mv (vi 0))])
 (.seq (.seq (.region [vM 6 0,
 vP 7 (.len (.s 6)),
 vP 8 (.mv (vi 0))])
 (.block 0 (.loop k23l0)))
 (.seq (.region [vP 4 (.mv (.c (.int .i64 (-1))))])
 (.ret)))
def k24 : Cd :=
  .seq (.region [vP 3 (.box 25 8 (.s 0)),
 vP 4 (.mv (.c (.bool false)))])
 (.seq (.region [vF 5 3 0,
 vP 6 (.ld true 2 (.s 5)),
 vP 7 (.ld true 2 (.s 1)),
 vP 8 (.eq false (.cells [.int, .int]) (.s 6) (.s 7)),
 vM 9 8,
 vT 9 10 (.ld true 8 (.s 3)),
 ⟨some (9, true), some 11, .inr (.fn 25 [(.s 10)])⟩,
 vP 12 (.pick (.s 9) (.s 11) (.c (.bool false))),
 vM 13 12,
 vT 13 14 (.ld true 2 (.s 2)),
 vT 13 15 (.ld true 8 (.s 3)),
 ⟨some (13, true), some 16, .inr (.fn 26 [(.s 14), (.s 15)])⟩,
 vP 17 (.pick (.s 13) (.s 16) (.c (.bool false))),
 vM 4 17])
 (.ret))
def k25 : Cd :=
  .seq (.region [vP 1 (.box 25 8 (.s 0)),
 vP 2 (.mv (.c (.bool false)))])
 (.seq (.region [vF 3 1 2,
 vL 4 1 3,
 vN 5 10 [(.s 4), (vi 1), (vi 5)],
 vM 2 5])
 (.ret))
def k26 : Cd :=
  .seq (.region [vP 2 (.box 66 2 (.s 0)),
 vP 3 (.box 25 8 (.s 1)),
 vP 4 (.mv (.c (.bool false)))])
 (.seq (.region [vF 5 3 3,
 vL 6 1 5,
 vF 7 2 1,
 vL 8 1 7,
 vP 9 (vb .leq 6 8),
 vM 4 9])
 (.ret))
def k27 : Cd :=
  .seq (.region [vP 2 (.box 66 2 (.s 0)),
 vP 3 (.box 25 8 (.s 1)),
 vP 4 (.mv (.c (.bool false)))])
 (.seq (.draw [vD (vP 5 (.ld true 8 (.s 3))) 0,
 vD (vN 6 25 [(.s 5)]) 1,
 vD (vM 7 6) 3,
 vD (vT 7 8 (.ld true 2 (.s 2))) 7,
 vD (vT 7 9 (.ld true 8 (.s 3))) 7,
 ⟨⟨some (7, true), some 10, .inr (.fn 26 [(.s 8), (.s 9)])⟩, some [], [], 31, false⟩,
 vD (vP 11 (.pick (.s 7) (.s 10) (.c (.bool false)))) 63,
 vD (vM 12 11) 127,
 vD (vT 12 13 (.ld true 2 (.s 2))) 255,
 vD (vT 12 14 (.ld true 8 (.s 3))) 255,
 ⟨⟨some (12, true), some 15, .inr (.fn 41 [(.s 13), (.s 14)])⟩, some [], [], 1023, false⟩,
 vD (vT 12 16 (.not (.s 15))) 2047,
 vD (vP 17 (.pick (.s 12) (.s 16) (.c (.bool false)))) 4095,
 vD (vM 18 17) 8191,
 vD (vT 18 19 (.ld true 2 (.s 2))) 16383,
 vD (vT 18 20 (.ld true 2 (.s 2))) 16383,
 vD (vT 18 21 (.ld true 8 (.s 3))) 16383,
 ⟨⟨some (18, true), some 22, .inr (.fn 28 [(.s 20), (.s 21)])⟩, some [], [], 114687, false⟩,
 ⟨⟨some (18, true), some 23, .inr (.fn 42 [(.s 19), (.s 22)])⟩, some [], [], 262143, false⟩,
 vD (vT 18 24 (.not (.s 23))) 524287,
 vD (vP 25 (.pick (.s 18) (.s 24) (.c (.bool false)))) 1048575,
 vD (vM 4 25) 2097151])
 (.ret))
def k28l0 : Cd :=
  .block 1 (.seq (.region [vP 6 (.ld true 2 (.s 2)),
 vP 7 (.ld true 8 (.s 3)),
 vP 8 (.bst 3 1 1 [(.int .i64 0)] [(0, (vi 6))]),
 vN 9 44 [(.s 6), (.s 7), (.s 8)],
 vP 10 (.mkf (.func 45) [] [(.s 2)]),
 vN 11 43 [(.s 9), (.s 10)],
 vM 5 11])
 (.seq (.seq (.region [vM 12 5,
 vP 13 (.len (.s 12)),
 vP 14 (vc .eql 13 0)])
 (.cond (.s 14) (.seq (.region [vP 15 (.ld true 8 (.s 3)),
 ⟨none, none, .inl (.st 8 (.s 4) (.s 15))⟩])
 (.ret))
 (.skip)))
 (.region [vM 16 5,
 vN 17 46 [(.s 16), (.f 47)],
 ⟨none, none, .inl (.st 8 (.s 3) (.s 17))⟩])))
def k28 : Cd :=
  .seq (.region [vP 2 (.box 66 2 (.s 0)),
 vP 3 (.box 25 8 (.s 1)),
 ⟨none, some 4, .inl (.alloc 25 [(.int .i64 0), (.int .i64 0), (.int .i64 0), (.int .i64 0), (.int .i64 0), (.int .i64 0), (.int .i64 0), (.string ⟨#[]⟩)])⟩])
 (.block 0 (.loop k28l0))
def k29l0 : Cd :=
  .seq (.region [vP 12 (vb .lss 11 10)])
 (.seq (.cond (.s 12) (.skip)
 (.exit 0))
 (.seq (.block 1 (.seq (.region [vI 13 1 9 11,
 vL 14 1 13,
 vM 5 14])
 (.seq (.region [vM 15 3,
 vM 16 5,
 vP 17 (.len (.s 16)),
 vP 18 (vb .add 15 17),
 vM 3 18])
 (.seq (.region [vM 19 3,
 vP 20 (vc .lss 19 0)])
 (.cond (.s 20) (.region [⟨none, some 21, .inl (.mki 9 (.c (.string ⟨#[108, 101, 110, 32, 111, 117, 116, 32, 111, 102, 32, 114, 97, 110, 103, 101]⟩)))⟩,
 ⟨none, none, .inr (.pan (.s 21))⟩])
 (.skip))))))
 (.region [vP 22 (vc .add 11 1),
 vM 11 22])))
def k29l1 : Cd :=
  .seq (.region [vP 28 (vb .lss 27 26)])
 (.seq (.cond (.s 28) (.skip)
 (.exit 2))
 (.seq (.block 3 (.seq (.region [vI 29 1 25 27,
 vL 30 1 29,
 vM 8 30])
 (.region [vM 31 6,
 vM 32 8,
 vP 33 (.app 5 1 1 (.s 31) (.s 32)),
 vM 6 33])))
 (.region [vP 34 (vc .add 27 1),
 vM 27 34])))
def k29 : Cd :=
  .seq (.region [vP 2 (.mv (.c (.slice none 0 0)))])
 (.seq (.region [vP 3 (.mv (vi 0))])
 (.seq (.seq (.region [vM 9 0,
 vP 10 (.len (.s 9)),
 vP 11 (.mv (vi 0))])
 (.block 0 (.loop k29l0)))
 (.seq (.region [vM 23 3,
 vN 24 48 [(.c (.slice none 0 0)), (.s 23)],
 vM 6 24])
 (.seq (.seq (.region [vM 25 0,
 vP 26 (.len (.s 25)),
 vP 27 (.mv (vi 0))])
 (.block 2 (.loop k29l1)))
 (.seq (.region [vM 35 6,
 vM 2 35])
 (.ret))))))
def k30 : Cd :=
  .seq (.region [vP 2 (.mv (.c (.slice none 0 0)))])
 (.seq (.region [vP 4 (.mks 5 1 1 [(.int .u8 0)] (vi 14) (vi 14)),
 vM 3 4])
 (.seq (.region [vM 5 3,
 ⟨none, some 6, .inl (.cpy 1 (.s 5) (.c (.string ⟨#[103, 121, 116, 116, 106, 97]⟩)))⟩])
 (.seq (.region [vM 7 3,
 vP 8 (.slc 1 (.s 7) (some (vi 6)) none none),
 vM 9 0,
 vP 10 (.cvi .u32 (.s 9)),
 vN 11 9 [(.s 8), (.s 10)]])
 (.seq (.draw [vD (vM 12 3) 0,
 vD (vP 13 (.slc 1 (.s 12) (some (vi 10)) none none)) 1,
 vD (vM 14 3) 0,
 vD (vP 15 (.slc 1 (.s 14) none (some (vi 10)) none)) 4,
 vD (vN 16 19 [(.s 15)]) 12,
 ⟨vN 17 9 [(.s 13), (.s 16)], none, [], 31, false⟩])
 (.seq (.region [vM 18 3,
 vM 2 18])
 (.ret))))))
def k31 : Cd :=
  .seq (.region [vP 0 (.mv (.c (.slice none 0 0)))])
 (.seq (.region [vN 1 49 [(.c (.slice none 0 0))],
 vM 0 1])
 (.ret))
def k32 : Cd :=
  .seq (.region [vP 2 (.box 51 4 (.s 0)),
 vP 3 (.box 53 3 (.s 1)),
 vP 4 (.mv (.c (.bool false)))])
 (.seq (.region [vP 9 (.ld true 4 (.s 2)),
 vN 10 50 [(.s 9)],
 vM 8 10,
 vP 11 (.ex (.s 8) 0),
 vP 12 (.ex (.s 8) 1),
 vP 13 (.ex (.s 8) 2),
 vP 5 (.alloc 51 [(.slice none 0 0), (.slice none 0 0), (.slice none 0 0), (.slice none 0 0)]),
 vP 6 (.alloc 53 [(.slice none 0 0), (.int .i64 0), (.int .i64 0)]),
 ⟨none, none, .inl (.st 4 (.s 5) (.s 11))⟩,
 ⟨none, none, .inl (.st 3 (.s 6) (.s 12))⟩,
 vM 7 13])
 (.seq (.seq (.region [vM 14 7,
 vP 15 (vc .neq 14 0),
 vM 16 15,
 vU 16 17 (.fa (.s 6) 1),
 vU 16 18 (.ld false 1 (.s 17)),
 vU 16 19 (.fa (.s 3) 1),
 vU 16 20 (.ld false 1 (.s 19)),
 vU 16 21 (vb .neq 18 20),
 vP 22 (.pick (.s 16) (.c (.bool true)) (.s 21)),
 vM 23 22,
 vU 23 24 (.fa (.s 6) 2),
 vU 23 25 (.ld false 1 (.s 24)),
 vU 23 26 (.fa (.s 3) 2),
 vU 23 27 (.ld false 1 (.s 26)),
 vU 23 28 (vb .neq 25 27),
 vP 29 (.pick (.s 23) (.c (.bool true)) (.s 28)),
 vM 30 29,
 vU 30 31 (.fa (.s 6) 0),
 vU 30 32 (.ld true 1 (.s 31)),
 vU 30 33 (.fa (.s 3) 0),
 vU 30 34 (.ld true 1 (.s 33)),
 ⟨some (30, false), some 35, .inr (.fn 34 [(.s 32), (.s 34)])⟩,
 vU 30 36 (.not (.s 35)),
 vP 37 (.pick (.s 30) (.c (.bool true)) (.s 36))])
 (.cond (.s 37) (.seq (.region [vP 4 (.mv (.c (.bool false)))])
 (.ret))
 (.skip)))
 (.seq (.draw [vD (vF 38 6 1) 0,
 vD (vL 39 1 38) 1,
 vD (vF 40 5 0) 0,
 vD (vP 41 (.iaa 2 2 (.s 40) (.s 39))) 7,
 vD (vF 42 41 0) 15,
 vD (vL 43 1 42) 31,
 vD (vP 44 (.len (.s 43))) 63,
 vD (vF 45 6 1) 0,
 vD (vL 46 1 45) 128,
 vD (vF 47 2 0) 0,
 vD (vP 48 (.iaa 2 2 (.s 47) (.s 46))) 896,
 vD (vP 49 (.ld true 2 (.s 48))) 1920,
 vD (vN 50 37 [(.s 49)]) 3968,
 vD (vP 51 (vb .eql 44 50)) 8191,
 vD (vM 4 51) 16383])
 (.ret))))
def k33 : Cd :=
  .seq (.region [vP 2 (.box 44 1 (.s 0)),
 vP 3 (.box 25 8 (.s 1)),
 vP 4 (.alloc 44 [(.slice none 0 0)]),
 vP 5 (.mv (vi 0))])
 (.seq (.seq (.region [vP 8 (.ld true 1 (.s 2)),
 vN 9 22 [(.s 8)],
 vM 6 9])
 (.seq (.region [vM 10 6,
 vP 11 (vc .neq 10 0)])
 (.cond (.s 11) (.seq (.region [vP 12 (.bld [(.slice none 0 0)] []),
 vM 13 6,
 ⟨none, none, .inl (.st 1 (.s 4) (.s 12))⟩,
 vM 5 13])
 (.ret))
 (.skip))))
 (.seq (.seq (.region [vP 14 (.ld true 8 (.s 3)),
 vN 15 7 [(.s 14)],
 vM 7 15])
 (.seq (.region [vM 16 7,
 vP 17 (vc .neq 16 0)])
 (.cond (.s 17) (.seq (.region [vP 18 (.bld [(.slice none 0 0)] []),
 vM 19 7,
 ⟨none, none, .inl (.st 1 (.s 4) (.s 18))⟩,
 vM 5 19])
 (.ret))
 (.skip))))
 (.seq (.region [vP 20 (.ld true 1 (.s 2)),
 vP 21 (.ld true 8 (.s 3)),
 ⟨none, some 22, .inl (.bst 25 8 1 [(.int .i64 0), (.int .i64 0), (.int .i64 0), (.int .i64 0), (.int .i64 0), (.int .i64 0), (.int .i64 0), (.string ⟨#[]⟩)] [(0, (.s 21))])⟩,
 vP 23 (.bld [(.slice none 0 0)] [(0, 1, (.s 22))]),
 vN 24 51 [(.s 20), (.s 23)],
 vP 25 (.ex (.s 24) 0),
 vP 26 (.ex (.s 24) 1),
 ⟨none, none, .inl (.st 1 (.s 4) (.s 25))⟩,
 vM 5 26])
 (.ret))))
def k34 : Cd :=
  .seq (.region [vP 2 (.box 44 1 (.s 0)),
 vP 3 (.box 44 1 (.s 1)),
 vP 4 (.mv (.c (.bool false)))])
 (.seq (.region [vF 5 2 0,
 vL 6 1 5,
 vF 7 3 0,
 vL 8 1 7,
 vN 9 52 [(.s 6), (.s 8)],
 vM 4 9])
 (.ret))
def k35l0 : Cd :=
  .seq (.region [vP 8 (vc .lss 7 2)])
 (.seq (.cond (.s 8) (.skip)
 (.exit 0))
 (.seq (.block 1 (.seq (.region [vM 9 7,
 vP 10 (.ixa true 2 2 (.s 6) (.s 7)),
 vP 4 (.alloc 48 [(.slice none 0 0), (.slice none 0 0)]),
 vM 3 9,
 ⟨none, none, .inl (.st 2 (.s 4) (.s 10))⟩])
 (.draw [vD (vM 11 3) 0,
 vD (vF 12 4 0) 0,
 vD (vL 13 1 12) 2,
 ⟨vN 14 53 [(.s 13)], none, [.av 4], 6, false⟩,
 vD (vF 15 4 1) 0,
 ⟨vL 16 1 15, some [], [.keep 4], 16, false⟩,
 ⟨vN 17 53 [(.s 16)], none, [], 62, false⟩,
 vD (vP 18 (.bld [(.slice none 0 0), (.slice none 0 0)] [(0, 1, (.s 14)), (1, 1, (.s 17))])) 126,
 vD (vF 19 1 0) 0,
 vD (vP 20 (.iaa 2 2 (.s 19) (.s 11))) 511,
 ⟨⟨none, none, .inl (.st 2 (.s 20) (.s 18))⟩, (some [.at 1]), [], 1023, false⟩])))
 (.region [vP 21 (vc .add 7 1),
 vM 7 21])))
def k35 : Cd :=
  .seq (.region [vP 1 (.box 51 4 (.s 0)),
 vP 2 (.alloc 51 [(.slice none 0 0), (.slice none 0 0), (.slice none 0 0), (.slice none 0 0)])])
 (.seq (.seq (.region [vF 5 1 0,
 vP 6 (.ld true 4 (.s 5)),
 vP 7 (.mv (vi 0))])
 (.block 0 (.loop k35l0)))
 (.seq (.region [vP 22 (.ld true 4 (.s 1)),
 ⟨none, none, .inl (.st 4 (.s 2) (.s 22))⟩])
 (.ret)))
def k36 : Cd :=
  .seq (.region [vP 1 (.box 25 8 (.s 0)),
 vP 2 (.mv (.c (.slice none 0 0))),
 vP 3 (.mv (vi 0))])
 (.seq (.region [vP 7 (.ld true 8 (.s 1)),
 vN 8 4 [(.s 7)],
 vM 6 8,
 vP 9 (.ex (.s 6) 0),
 vP 10 (.ex (.s 6) 1),
 vM 4 9,
 vM 5 10])
 (.seq (.seq (.region [vM 11 5,
 vP 12 (vc .neq 11 0)])
 (.cond (.s 12) (.seq (.region [vM 13 5,
 vP 2 (.mv (.c (.slice none 0 0))),
 vM 3 13])
 (.ret))
 (.skip)))
 (.seq (.region [vM 14 4,
 vN 15 49 [(.s 14)],
 vM 2 15,
 vP 3 (.mv (vi 0))])
 (.ret))))
def k37 : Cd :=
  .seq (.region [vP 1 (.box 48 2 (.s 0)),
 vP 2 (.mv (vi 0))])
 (.seq (.region [vF 3 1 0,
 vL 4 1 3,
 vP 5 (.len (.s 4)),
 vF 6 1 1,
 vL 7 1 6,
 vP 8 (.len (.s 7)),
 vP 9 (vb .add 5 8),
 vM 2 9])
 (.ret))
def k38 : Cd :=
  .seq (.region [vP 3 (.box 26 1 (.s 1)),
 vP 4 (.mv (.c .nilFunc))])
 (.seq (.region [vM 5 0,
 vP 6 (.mkf (.func 55) [] [(.s 3)]),
 vN 7 54 [(.s 5), (.s 6)],
 vM 4 7])
 (.ret))
def k39 : Cd :=
  .seq (.region [vP 2 (.mv (.c (.bool false)))])
 (.seq (.region [vM 3 0,
 vN 4 10 [(.s 3), (vi 0), (vi 7)],
 vM 2 4])
 (.ret))
def k40 : Cd :=
  .seq (.region [vP 2 (.box 23 2 (.s 0)),
 vP 3 (.box 23 2 (.s 1)),
 vP 4 (.mv (vi 0))])
 (.seq (.draw [vD (vF 5 2 0) 0,
 vD (vL 6 1 5) 1,
 vD (vF 7 3 0) 0,
 vD (vL 8 1 7) 4,
 vD (vN 9 57 [(.s 6), (.s 8)]) 15,
 vD (vF 10 2 1) 0,
 vD (vL 11 1 10) 32,
 vD (vF 12 3 1) 0,
 vD (vL 13 1 12) 128,
 vD (vN 14 57 [(.s 11), (.s 13)]) 511,
 ⟨vP 15 (.bst 3 1 2 [(.int .i64 0)] [(0, (.s 9)), (1, (.s 14))]), (some [.fr 15]), [], 1023, false⟩,
 vD (vN 16 56 [(.s 15)]) 2047,
 vD (vM 4 16) 4095])
 (.ret))
def k41 : Cd :=
  .seq (.region [vP 2 (.box 66 2 (.s 0)),
 vP 3 (.box 25 8 (.s 1)),
 vP 4 (.mv (.c (.bool false)))])
 (.seq (.region [vP 5 (.ld true 2 (.s 2)),
 vP 6 (.ld true 8 (.s 3)),
 vP 7 (.bst 3 1 1 [(.int .i64 0)] [(0, (vi 7))]),
 vN 8 44 [(.s 5), (.s 6), (.s 7)],
 vP 9 (.len (.s 8)),
 vP 10 (vc .gtr 9 0),
 vM 4 10])
 (.ret))
def k42 : Cd :=
  .seq (.region [vP 2 (.box 66 2 (.s 0)),
 vP 3 (.box 25 8 (.s 1)),
 vP 4 (.mv (.c (.bool false)))])
 (.seq (.region [vP 6 (.ld true 2 (.s 2)),
 vP 7 (.ld true 8 (.s 3)),
 vP 8 (.bst 3 1 2 [(.int .i64 0)] [(0, (vi 8)), (1, (vi 9))]),
 vN 9 44 [(.s 6), (.s 7), (.s 8)],
 vM 5 9])
 (.seq (.region [vM 10 5,
 vP 11 (.len (.s 10)),
 vP 12 (vc .gtr 11 0),
 vM 13 12,
 vT 13 14 (.mv (.s 5)),
 ⟨some (13, true), some 15, .inr (.fn 46 [(.s 14), (.f 47)])⟩,
 vT 13 16 (.fd false 1 2 (.s 15)),
 vT 13 17 (vc .eql 16 8),
 vP 18 (.pick (.s 13) (.s 17) (.c (.bool false))),
 vM 4 18])
 (.ret)))
def k43l0 : Cd :=
  .seq (.region [vP 11 (vb .lss 10 9)])
 (.seq (.cond (.s 11) (.skip)
 (.exit 0))
 (.seq (.block 1 (.seq (.region [vI 12 8 8 10,
 vP 13 (.ld true 8 (.s 12)),
 ⟨none, some 7, .inl (.alloc 25 [(.int .i64 0), (.int .i64 0), (.int .i64 0), (.int .i64 0), (.int .i64 0), (.int .i64 0), (.int .i64 0), (.string ⟨#[]⟩)])⟩,
 ⟨none, none, .inl (.st 8 (.s 7) (.s 13))⟩])
 (.seq (.region [vM 14 1,
 vP 15 (.ld true 8 (.s 7)),
 ⟨none, some 16, .inr (.val false (.s 14) [(.s 15)])⟩])
 (.cond (.s 16) (.region [vM 17 5,
 vP 18 (.ld true 8 (.s 7)),
 ⟨none, some 19, .inl (.bs 25 8 1 [(.int .i64 0), (.int .i64 0), (.int .i64 0), (.int .i64 0), (.int .i64 0), (.int .i64 0), (.int .i64 0), (.string ⟨#[]⟩)] [(0, (.s 18))])⟩,
 vP 20 (.app 25 8 72 (.s 17) (.s 19)),
 vM 5 20])
 (.skip)))))
 (.region [vP 21 (vc .add 10 1),
 vM 10 21])))
def k43 : Cd :=
  .seq (.region [vP 4 (.mv (.c (.slice none 0 0)))])
 (.seq (.region [vP 5 (.mv (.c (.slice none 0 0)))])
 (.seq (.seq (.region [vM 8 0,
 vP 9 (.len (.s 8)),
 vP 10 (.mv (vi 0))])
 (.block 0 (.loop k43l0)))
 (.seq (.region [vM 22 5,
 vM 4 22])
 (.ret))))
def k44 : Cd :=
  .seq (.region [vP 3 (.box 66 2 (.s 0)),
 vP 4 (.box 25 8 (.s 1)),
 vP 5 (.box 59 1 (.s 2)),
 vP 6 (.mv (.c (.slice none 0 0)))])
 (.seq (.region [vF 7 3 0,
 vF 8 7 0,
 vL 9 1 8,
 vP 10 (.mkf (.func 58) [] [(.s 4), (.s 5), (.s 3)]),
 vN 11 43 [(.s 9), (.s 10)],
 vM 6 11])
 (.ret))
def k45 : Cd :=
  .seq (.region [vP 2 (.box 25 8 (.s 0)),
 vP 3 (.mv (.c (.bool false)))])
 (.seq (.region [vP 4 (.ld true 2 (.s 1)),
 vP 5 (.ld true 8 (.s 2)),
 vN 6 41 [(.s 4), (.s 5)],
 vP 7 (.not (.s 6)),
 vM 3 7])
 (.ret))
def k46l0 : Cd :=
  .seq (.seq (.region [vM 14 6,
 vM 15 0,
 vP 16 (.len (.s 15)),
 vP 17 (vb .lss 14 16)])
 (.cond (.s 17) (.skip)
 (.exit 0)))
 (.seq (.block 1 (.seq (.draw [vD (vM 20 1) 0,
 vD (vM 21 0) 0,
 vD (vM 22 6) 0,
 vD (vI 23 8 21 22) 6,
 vD (vP 24 (.ld true 8 (.s 23))) 14,
 vD (vP 25 (.ld true 8 (.s 5))) 0,
 ⟨⟨none, some 26, .inr (.val false (.s 20) [(.s 24), (.s 25)])⟩, some [], [], 63, false⟩,
 vD (vP 27 (vc .gtr 26 0)) 127])
 (.cond (.s 27) (.region [vM 28 0,
 vM 29 6,
 vI 30 8 28 29,
 vP 31 (.ld true 8 (.s 30)),
 ⟨none, none, .inl (.st 8 (.s 5) (.s 31))⟩])
 (.skip))))
 (.region [vM 18 6,
 vP 19 (vc .add 18 1),
 vM 6 19]))
def k46 : Cd :=
  .seq (.region [⟨none, some 4, .inl (.alloc 25 [(.int .i64 0), (.int .i64 0), (.int .i64 0), (.int .i64 0), (.int .i64 0), (.int .i64 0), (.int .i64 0), (.string ⟨#[]⟩)])⟩])
 (.seq (.seq (.region [vM 7 0,
 vP 8 (.len (.s 7)),
 vP 9 (vc .lss 8 1)])
 (.cond (.s 9) (.region [⟨none, some 10, .inl (.mki 9 (.c (.string ⟨#[115, 108, 105, 99, 101, 115, 46, 77, 97, 120, 70, 117, 110, 99, 58, 32, 101, 109, 112, 116, 121, 32, 108, 105, 115, 116]⟩)))⟩,
 ⟨none, none, .inr (.pan (.s 10))⟩])
 (.skip)))
 (.seq (.region [vM 11 0,
 vP 12 (.ias 8 (.s 11) (vi 0)),
 vP 13 (.ld true 8 (.s 12)),
 ⟨none, some 5, .inl (.alloc 25 [(.int .i64 0), (.int .i64 0), (.int .i64 0), (.int .i64 0), (.int .i64 0), (.int .i64 0), (.int .i64 0), (.string ⟨#[]⟩)])⟩,
 ⟨none, none, .inl (.st 8 (.s 5) (.s 13))⟩])
 (.seq (.seq (.region [vP 6 (.mv (vi 1))])
 (.block 0 (.loop k46l0)))
 (.seq (.region [vP 32 (.ld true 8 (.s 5)),
 ⟨none, none, .inl (.st 8 (.s 4) (.s 32))⟩])
 (.ret)))))
def k47 : Cd :=
  .seq (.region [vP 2 (.box 25 8 (.s 0)),
 vP 3 (.box 25 8 (.s 1)),
 vP 4 (.mv (vi 0))])
 (.seq (.draw [vD (vF 5 2 3) 0,
 vD (vL 6 1 5) 1,
 vD (vF 7 3 3) 0,
 vD (vL 8 1 7) 4,
 vD (vN 9 57 [(.s 6), (.s 8)]) 15,
 vD (vF 10 2 0) 0,
 vD (vP 11 (.ld true 2 (.s 10))) 32,
 vD (vF 12 3 0) 0,
 vD (vP 13 (.ld true 2 (.s 12))) 128,
 vD (vN 14 40 [(.s 11), (.s 13)]) 511,
 ⟨vP 15 (.bst 3 1 2 [(.int .i64 0)] [(0, (.s 9)), (1, (.s 14))]), (some [.fr 15]), [], 1023, false⟩,
 vD (vN 16 56 [(.s 15)]) 2047,
 vD (vM 4 16) 4095])
 (.ret))
def k48 : Cd :=
  .seq (.region [vP 4 (.mv (.c (.slice none 0 0)))])
 (.seq (.seq (.region [vM 5 1,
 vP 6 (vc .lss 5 0)])
 (.cond (.s 6) (.region [⟨none, some 7, .inl (.mki 9 (.c (.string ⟨#[99, 97, 110, 110, 111, 116, 32, 98, 101, 32, 110, 101, 103, 97, 116, 105, 118, 101]⟩)))⟩,
 ⟨none, none, .inr (.pan (.s 7))⟩])
 (.skip)))
 (.seq (.seq (.region [vM 8 1,
 vM 9 0,
 vP 10 (.cap (.s 9)),
 vM 11 0,
 vP 12 (.len (.s 11)),
 vP 13 (vb .sub 10 12),
 vP 14 (vb .sub 8 13),
 vM 1 14])
 (.seq (.region [vM 15 1,
 vP 16 (vc .gtr 15 0)])
 (.cond (.s 16) (.region [vM 17 0,
 vM 18 0,
 vP 19 (.cap (.s 18)),
 vP 20 (.slc 1 (.s 17) none (some (.s 19)) none),
 vM 21 1,
 vP 22 (.apz 5 1 1 [(.int .u8 0)] (.s 20) (.s 21)),
 vM 23 0,
 vP 24 (.len (.s 23)),
 vP 25 (.slc 1 (.s 22) none (some (.s 24)) none),
 vM 0 25])
 (.skip))))
 (.seq (.region [vM 26 0,
 vM 4 26])
 (.ret))))
def k49 : Cd :=
  .seq (.region [vP 2 (.mv (.c (.slice none 0 0)))])
 (.seq (.region [vM 4 0,
 vP 5 (.len (.s 4)),
 vP 6 (.bin .add (vi 8) (.s 5)),
 vP 7 (.mks 5 1 1 [(.int .u8 0)] (.s 6) (.s 6)),
 vM 3 7])
 (.seq (.region [vM 8 3,
 vM 9 0,
 vP 10 (.len (.s 9)),
 vP 11 (.cvi .u32 (.s 10)),
 vN 12 9 [(.s 8), (.s 11)]])
 (.seq (.draw [vD (vM 13 3) 0,
 vD (vP 14 (.slc 1 (.s 13) (some (vi 4)) none none)) 1,
 vD (vM 15 0) 0,
 vD (vN 16 19 [(.s 15)]) 4,
 ⟨vN 17 9 [(.s 14), (.s 16)], none, [], 15, false⟩])
 (.seq (.region [vM 18 3,
 vP 19 (.slc 1 (.s 18) (some (vi 8)) none none),
 vM 20 0,
 vP 21 (.cpy 1 (.s 19) (.s 20))])
 (.seq (.region [vM 22 3,
 vM 2 22])
 (.ret))))))
def k50l0 : Cd :=
  .seq (.region [vP 17 (vc .lss 16 2)])
 (.seq (.cond (.s 17) (.skip)
 (.exit 0))
 (.seq (.block 1 (.seq (.region [vM 18 16,
 vP 19 (.ixa true 2 2 (.s 15) (.s 16)),
 vP 8 (.alloc 48 [(.slice none 0 0), (.slice none 0 0)]),
 vM 7 18,
 ⟨none, none, .inl (.st 2 (.s 8) (.s 19))⟩])
 (.seq (.region [vP 21 (.ld true 2 (.s 8)),
 vN 22 60 [(.s 21)],
 vM 20 22,
 vP 23 (.ex (.s 20) 0),
 vP 24 (.ex (.s 20) 1),
 vP 9 (.alloc 99 [(.int .i64 0), (.slice none 0 0), (.slice none 0 0), (.slice none 0 0)]),
 ⟨none, none, .inl (.st 4 (.s 9) (.s 23))⟩,
 vM 10 24])
 (.seq (.region [vM 25 10,
 vM 26 25,
 vT 26 27 (.fa (.s 9) 0),
 vT 26 28 (.ld false 1 (.s 27)),
 vT 26 29 (.fa (.s 5) 0),
 vT 26 30 (.ld false 1 (.s 29)),
 vT 26 31 (vb .gtr 28 30),
 vP 32 (.pick (.s 26) (.s 31) (.c (.bool false)))])
 (.cond (.s 32) (.region [vP 33 (.ld true 4 (.s 9)),
 vM 34 7,
 ⟨none, none, .inl (.st 4 (.s 5) (.s 33))⟩,
 vM 6 34])
 (.skip))))))
 (.region [vP 35 (vc .add 16 1),
 vM 16 35])))
def k50 : Cd :=
  .seq (.region [vP 1 (.box 51 4 (.s 0)),
 vP 2 (.alloc 51 [(.slice none 0 0), (.slice none 0 0), (.slice none 0 0), (.slice none 0 0)]),
 vP 3 (.alloc 53 [(.slice none 0 0), (.int .i64 0), (.int .i64 0)]),
 vP 4 (.mv (vi 0))])
 (.seq (.region [vP 5 (.alloc 99 [(.int .i64 0), (.slice none 0 0), (.slice none 0 0), (.slice none 0 0)])])
 (.seq (.region [vP 6 (.mv (.c (.int .i64 (-1))))])
 (.seq (.seq (.region [vF 14 1 0,
 vP 15 (.ld true 4 (.s 14)),
 vP 16 (.mv (vi 0))])
 (.block 0 (.loop k50l0)))
 (.seq (.seq (.region [vM 36 6,
 vP 37 (.bin .eql (.s 36) (.c (.int .i64 (-1))))])
 (.cond (.s 37) (.seq (.region [vP 38 (.bld [(.slice none 0 0), (.slice none 0 0), (.slice none 0 0), (.slice none 0 0)] []),
 vP 39 (.bld [(.slice none 0 0), (.int .i64 0), (.int .i64 0)] []),
 ⟨none, none, .inl (.st 4 (.s 2) (.s 38))⟩,
 ⟨none, none, .inl (.st 3 (.s 3) (.s 39))⟩,
 vP 4 (.mv (vi 85))])
 (.ret))
 (.skip)))
 (.seq (.region [vF 41 5 1,
 vL 42 1 41,
 vF 43 5 2,
 vL 44 1 43,
 vP 45 (.bst 41 1 2 [(.slice none 0 0)] [(0, (.s 42)), (1, (.s 44))]),
 vN 46 61 [(.s 45)],
 vM 40 46,
 vP 47 (.ex (.s 40) 0),
 vP 48 (.ex (.s 40) 1),
 vM 11 47,
 vM 12 48])
 (.seq (.seq (.region [vM 49 12,
 vP 50 (.not (.s 49)),
 vM 51 50,
 vU 51 52 (.mv (.s 11)),
 vU 51 53 (.len (.s 52)),
 vU 51 54 (vc .gtr 53 200),
 vP 55 (.pick (.s 51) (.c (.bool true)) (.s 54))])
 (.cond (.s 55) (.seq (.region [vP 56 (.bld [(.slice none 0 0), (.slice none 0 0), (.slice none 0 0), (.slice none 0 0)] []),
 vP 57 (.bld [(.slice none 0 0), (.int .i64 0), (.int .i64 0)] []),
 ⟨none, none, .inl (.st 4 (.s 2) (.s 56))⟩,
 ⟨none, none, .inl (.st 3 (.s 3) (.s 57))⟩,
 vP 4 (.mv (vi 85))])
 (.ret))
 (.skip)))
 (.seq (.region [vP 13 (.alloc 51 [(.slice none 0 0), (.slice none 0 0), (.slice none 0 0), (.slice none 0 0)])])
 (.seq (.region [vM 58 6,
 vF 59 5 3,
 vL 60 1 59,
 vF 61 13 0,
 vP 62 (.iaa 2 2 (.s 61) (.s 58)),
 vF 63 62 0,
 ⟨none, none, .inl (.st 1 (.s 63) (.s 60))⟩])
 (.seq (.draw [vD (vP 64 (.ld true 4 (.s 13))) 0,
 vD (vM 65 11) 0,
 vD (vP 66 (.bld [(.slice none 0 0)] [(0, 1, (.s 65))])) 2,
 vD (vM 67 6) 0,
 vD (vF 68 5 0) 0,
 ⟨vL 69 1 68, some [], [.at 2], 16, false⟩,
 vD (vP 70 (.bld [(.slice none 0 0), (.int .i64 0), (.int .i64 0)] [(0, 1, (.s 66)), (1, 1, (.s 67)), (2, 1, (.s 69))])) 62,
 ⟨⟨none, none, .inl (.st 4 (.s 2) (.s 64))⟩, (some [.at 2]), [], 1, false⟩,
 ⟨⟨none, none, .inl (.st 3 (.s 3) (.s 70))⟩, (some [.at 3]), [], 255, false⟩,
 vD (vP 4 (.mv (vi 0))) 511])
 (.ret))))))))))
def k51 : Cd :=
  .seq (.region [vP 2 (.box 44 1 (.s 0)),
 vP 3 (.box 44 1 (.s 1)),
 vP 4 (.alloc 44 [(.slice none 0 0)]),
 vP 5 (.mv (vi 0))])
 (.seq (.seq (.region [vP 8 (.ld true 1 (.s 2)),
 vN 9 22 [(.s 8)],
 vP 10 (vc .neq 9 0),
 vM 11 10,
 vU 11 12 (.ld true 1 (.s 3)),
 ⟨some (11, false), some 13, .inr (.fn 22 [(.s 12)])⟩,
 vU 11 14 (vc .neq 13 0),
 vP 15 (.pick (.s 11) (.c (.bool true)) (.s 14))])
 (.cond (.s 15) (.seq (.region [vP 16 (.bld [(.slice none 0 0)] []),
 ⟨none, none, .inl (.st 1 (.s 4) (.s 16))⟩,
 vP 5 (.mv (vi 81))])
 (.ret))
 (.skip)))
 (.seq (.region [vF 18 2 0,
 vL 19 1 18,
 vF 20 3 0,
 vL 21 1 20,
 vP 22 (.bst 41 1 2 [(.slice none 0 0)] [(0, (.s 19)), (1, (.s 21))]),
 vN 23 61 [(.s 22)],
 vM 17 23,
 vP 24 (.ex (.s 17) 0),
 vP 25 (.ex (.s 17) 1),
 vM 6 24,
 vM 7 25])
 (.seq (.seq (.region [vM 26 7,
 vP 27 (.not (.s 26))])
 (.cond (.s 27) (.seq (.region [vP 28 (.bld [(.slice none 0 0)] []),
 ⟨none, none, .inl (.st 1 (.s 4) (.s 28))⟩,
 vP 5 (.mv (vi 82))])
 (.ret))
 (.skip)))
 (.seq (.seq (.region [vM 29 6,
 vP 30 (.len (.s 29)),
 vP 31 (vc .gtr 30 200)])
 (.cond (.s 31) (.seq (.region [vP 32 (.bld [(.slice none 0 0)] []),
 ⟨none, none, .inl (.st 1 (.s 4) (.s 32))⟩,
 vP 5 (.mv (vi 2))])
 (.ret))
 (.skip)))
 (.seq (.region [vM 33 6,
 vP 34 (.bld [(.slice none 0 0)] [(0, 1, (.s 33))]),
 ⟨none, none, .inl (.st 1 (.s 4) (.s 34))⟩,
 vP 5 (.mv (vi 0))])
 (.ret))))))
def k52l0 : Cd :=
  .seq (.region [vP 14 (vb .lss 13 12)])
 (.seq (.cond (.s 14) (.skip)
 (.exit 0))
 (.seq (.block 1 (.seq (.region [vM 15 13,
 vM 5 15])
 (.seq (.draw [vD (vM 16 0) 0,
 vD (vM 17 5) 0,
 vD (vI 18 8 16 17) 3,
 vD (vP 19 (.ld true 8 (.s 18))) 7,
 vD (vM 20 1) 0,
 vD (vM 21 5) 0,
 vD (vI 22 8 20 21) 48,
 vD (vP 23 (.ld true 8 (.s 22))) 112,
 vD (vP 24 (.eq true (.cells [.int, .int, .int, .int, .int, .int, .int, .str]) (.s 19) (.s 23))) 255])
 (.cond (.s 24) (.seq (.region [vP 4 (.mv (.c (.bool false)))])
 (.ret))
 (.skip)))))
 (.region [vP 25 (vc .add 13 1),
 vM 13 25])))
def k52 : Cd :=
  .seq (.region [vP 4 (.mv (.c (.bool false)))])
 (.seq (.seq (.region [vM 6 0,
 vP 7 (.len (.s 6)),
 vM 8 1,
 vP 9 (.len (.s 8)),
 vP 10 (vb .neq 7 9)])
 (.cond (.s 10) (.seq (.region [vP 4 (.mv (.c (.bool false)))])
 (.ret))
 (.skip)))
 (.seq (.seq (.region [vM 11 0,
 vP 12 (.len (.s 11)),
 vP 13 (.mv (vi 0))])
 (.block 0 (.loop k52l0)))
 (.seq (.region [vP 4 (.mv (.c (.bool true)))])
 (.ret))))
def k53 : Cd :=
  .seq (.region [vP 2 (.mv (.c (.slice none 0 0)))])
 (.seq (.seq (.region [vM 3 0,
 vP 4 (.eq false (.nil .slice) (.s 3) (.c (.slice none 0 0)))])
 (.cond (.s 4) (.seq (.region [vP 2 (.mv (.c (.slice none 0 0)))])
 (.ret))
 (.skip)))
 (.seq (.region [vP 5 (.bs 5 1 0 [(.int .u8 0)] []),
 vM 6 0,
 vP 7 (.app 5 1 1 (.s 5) (.s 6)),
 vM 2 7])
 (.ret)))
def k54 : Cd :=
  .seq (.region [vP 2 (.box 3 1 (.s 0)),
 vP 3 (.box 94 1 (.s 1)),
 vP 4 (.mv (.c .nilFunc))])
 (.seq (.region [vP 5 (.mkf (.func 62) [] [(.s 3), (.s 2)]),
 vM 4 5])
 (.ret))
def k55 : Cd :=
  .draw [vD (vM 3 0) 0,
 vD (vM 4 0) 0,
 vD (vP 5 (.nc (.s 4))) 2,
 vD (vF 6 5 1) 6,
 vD (vL 7 1 6) 14,
 vD (vL 8 1 1) 0,
 ⟨vP 9 (.app 5 1 1 (.s 7) (.s 8)), (some [.fr 9, .at 7]), [], 62, false⟩,
 vD (vP 10 (.nc (.s 3))) 127,
 vD (vF 11 10 1) 255,
 ⟨⟨none, none, .inl (.st 1 (.s 11) (.s 9))⟩, (some [.at 0]), [], 511, false⟩]
def k56l0 : Cd :=
  .seq (.region [vP 9 (vb .lss 8 7)])
 (.seq (.cond (.s 9) (.skip)
 (.exit 0))
 (.seq (.block 1 (.seq (.region [vI 10 1 6 8,
 vL 11 1 10,
 vM 5 11])
 (.seq (.region [vM 12 5,
 vM 13 3,
 vP 14 (vb .neq 12 13)])
 (.cond (.s 14) (.seq (.region [vM 15 5,
 vM 2 15])
 (.ret))
 (.skip)))))
 (.region [vP 16 (vc .add 8 1),
 vM 8 16])))
def k56 : Cd :=
  .seq (.region [vP 2 (.mv (vi 0))])
 (.seq (.region [vP 3 (.mv (vi 0))])
 (.seq (.seq (.region [vM 6 0,
 vP 7 (.len (.s 6)),
 vP 8 (.mv (vi 0))])
 (.block 0 (.loop k56l0)))
 (.seq (.region [vM 17 3,
 vM 2 17])
 (.ret))))
def k57 : Cd :=
  .seq (.region [vP 4 (.mv (vi 0))])
 (.seq (.region [vM 7 0,
 vN 8 63 [(.s 7)],
 vM 5 8])
 (.seq (.region [vM 9 1,
 vN 10 63 [(.s 9)],
 vM 6 10])
 (.seq (.seq (.region [vM 11 5])
 (.cond (.s 11) (.seq (.seq (.region [vM 12 6])
 (.cond (.s 12) (.seq (.region [vP 4 (.mv (vi 0))])
 (.ret))
 (.skip)))
 (.seq (.region [vP 4 (.mv (.c (.int .i64 (-1))))])
 (.ret)))
 (.skip)))
 (.seq (.seq (.region [vM 13 6])
 (.cond (.s 13) (.seq (.region [vP 4 (.mv (vi 1))])
 (.ret))
 (.skip)))
 (.seq (.seq (.region [vM 14 0,
 vM 15 1,
 vP 16 (vb .lss 14 15)])
 (.cond (.s 16) (.seq (.region [vP 4 (.mv (.c (.int .i64 (-1))))])
 (.ret))
 (.skip)))
 (.seq (.seq (.region [vM 17 0,
 vM 18 1,
 vP 19 (vb .gtr 17 18)])
 (.cond (.s 19) (.seq (.region [vP 4 (.mv (vi 1))])
 (.ret))
 (.skip)))
 (.seq (.region [vP 4 (.mv (vi 0))])
 (.ret))))))))
def k58 : Cd :=
  .seq (.region [vP 4 (.box 25 8 (.s 0)),
 vP 5 (.mv (.c (.bool false)))])
 (.seq (.region [vF 6 4 5,
 vP 7 (.ld true 2 (.s 6)),
 vF 8 1 0,
 vP 9 (.ld true 2 (.s 8)),
 vP 10 (.eq false (.cells [.int, .int]) (.s 7) (.s 9)),
 vM 11 10,
 vT 11 12 (.ld false 1 (.s 2)),
 vT 11 13 (.fa (.s 4) 2),
 vT 11 14 (.ld false 1 (.s 13)),
 ⟨some (11, true), some 15, .inr (.fn 59 [(.s 12), (.s 14)])⟩,
 vP 16 (.pick (.s 11) (.s 15) (.c (.bool false))),
 vM 17 16,
 vT 17 18 (.ld true 2 (.s 3)),
 vT 17 19 (.ld true 8 (.s 4)),
 ⟨some (17, true), some 20, .inr (.fn 26 [(.s 18), (.s 19)])⟩,
 vP 21 (.pick (.s 17) (.s 20) (.c (.bool false))),
 vM 22 21,
 vT 22 23 (.ld true 8 (.s 4)),
 vT 22 24 (.ld true 8 (.s 1)),
 ⟨some (22, true), some 25, .inr (.fn 47 [(.s 23), (.s 24)])⟩,
 vT 22 26 (vc .gtr 25 0),
 vP 27 (.pick (.s 22) (.s 26) (.c (.bool false))),
 vM 5 27])
 (.ret))
def k59 : Cd :=
  .seq (.region [vP 4 (.mv (.c (.bool false)))])
 (.seq (.region [vM 5 0,
 vM 6 1,
 vN 7 64 [(.s 5), (.s 6)],
 vP 8 (vc .geq 7 0),
 vM 4 8])
 (.ret))
def k60 : Cd :=
  .seq (.region [vP 1 (.box 48 2 (.s 0)),
 vP 2 (.alloc 99 [(.int .i64 0), (.slice none 0 0), (.slice none 0 0), (.slice none 0 0)]),
 vP 3 (.mv (.c (.bool false)))])
 (.seq (.region [vF 10 1 0,
 vL 11 1 10,
 vF 12 1 1,
 vL 13 1 12,
 vP 14 (.bst 26 1 2 [(.slice none 0 0)] [(0, (.s 11)), (1, (.s 13))]),
 vN 15 29 [(.s 14)],
 vM 4 15])
 (.seq (.seq (.region [vM 16 4,
 vP 17 (.len (.s 16)),
 vP 18 (vc .lss 17 14)])
 (.cond (.s 18) (.seq (.region [vP 19 (.bld [(.int .i64 0), (.slice none 0 0), (.slice none 0 0), (.slice none 0 0)] []),
 ⟨none, none, .inl (.st 4 (.s 2) (.s 19))⟩,
 vP 3 (.mv (.c (.bool false)))])
 (.ret))
 (.skip)))
 (.seq (.region [vM 20 4,
 vP 21 (.slc 1 (.s 20) (some (vi 6)) none none),
 vN 22 11 [(.s 21)],
 vP 23 (.cvi .i64 (.s 22)),
 vM 5 23])
 (.seq (.seq (.region [vM 24 5,
 vN 25 10 [(.s 24), (vi 1), (vi 1000000000)],
 vP 26 (.not (.s 25)),
 vM 27 26,
 vU 27 28 (.mv (.s 4)),
 vU 27 29 (.mv (.s 5)),
 ⟨some (27, false), some 30, .inr (.fn 30 [(.s 29)])⟩,
 ⟨some (27, false), some 31, .inr (.fn 65 [(.s 28), (.s 30)])⟩,
 vU 27 32 (.not (.s 31)),
 vP 33 (.pick (.s 27) (.c (.bool true)) (.s 32))])
 (.cond (.s 33) (.seq (.region [vP 34 (.bld [(.int .i64 0), (.slice none 0 0), (.slice none 0 0), (.slice none 0 0)] []),
 ⟨none, none, .inl (.st 4 (.s 2) (.s 34))⟩,
 vP 3 (.mv (.c (.bool false)))])
 (.ret))
 (.skip)))
 (.seq (.region [vM 36 4,
 vP 37 (.slc 1 (.s 36) (some (vi 14)) none none),
 vN 38 66 [(.s 37)],
 vM 35 38,
 vP 39 (.ex (.s 35) 0),
 vP 40 (.ex (.s 35) 1),
 vM 6 39,
 vM 7 40])
 (.seq (.region [vM 41 7,
 vP 42 (.bin .add (vi 14) (.s 41)),
 vM 8 42])
 (.seq (.seq (.draw [vD (vM 43 4) 0,
 vD (vM 44 8) 0,
 vD (vP 45 (.slc 1 (.s 43) (some (.s 44)) none none)) 3,
 vD (vN 46 31 []) 0,
 vD (vN 47 65 [(.s 45), (.s 46)]) 15,
 vD (vP 48 (.not (.s 47))) 31])
 (.cond (.s 48) (.seq (.region [vP 49 (.bld [(.int .i64 0), (.slice none 0 0), (.slice none 0 0), (.slice none 0 0)] []),
 ⟨none, none, .inl (.st 4 (.s 2) (.s 49))⟩,
 vP 3 (.mv (.c (.bool false)))])
 (.ret))
 (.skip)))
 (.seq (.region [vM 50 8,
 vN 51 31 [],
 vP 52 (.len (.s 51)),
 vP 53 (vb .add 50 52),
 vM 8 53])
 (.seq (.region [vM 55 4,
 vM 56 8,
 vP 57 (.slc 1 (.s 55) (some (.s 56)) none none),
 vN 58 66 [(.s 57)],
 vM 54 58,
 vP 59 (.ex (.s 54) 0),
 vP 60 (.ex (.s 54) 1),
 vM 9 59,
 vM 7 60])
 (.seq (.region [vM 61 8,
 vM 62 7,
 vP 63 (vb .add 61 62),
 vM 8 63])
 (.seq (.region [vM 64 5,
 vM 65 6,
 vM 66 9,
 vM 67 4,
 vM 68 8,
 vP 69 (.slc 1 (.s 67) none (some (.s 68)) none),
 vP 70 (.bld [(.int .i64 0), (.slice none 0 0), (.slice none 0 0), (.slice none 0 0)] [(0, 1, (.s 64)), (1, 1, (.s 65)), (2, 1, (.s 66)), (3, 1, (.s 69))]),
 ⟨none, none, .inl (.st 4 (.s 2) (.s 70))⟩,
 vP 3 (.mv (.c (.bool true)))])
 (.ret))))))))))))
def k61l0 : Cd :=
  .seq (.region [vP 14 (vb .lss 13 12)])
 (.seq (.cond (.s 14) (.skip)
 (.exit 0))
 (.seq (.block 1 (.seq (.region [vM 15 13,
 vM 4 15])
 (.seq (.draw [vD (vM 16 4) 0,
 vD (vP 17 (vc .gtr 16 0)) 1,
 vD (vM 18 17) 3,
 vD (vT 18 19 (.mv (.s 2))) 7,
 vD (vT 18 20 (.mv (.s 4))) 7,
 vD (vT 18 21 (vc .sub 20 1)) 23,
 vD (vT 18 22 (.ias 8 (.s 19) (.s 21))) 63,
 vD (vT 18 23 (.fa (.s 22) 0)) 127,
 vD (vT 18 24 (.ld true 2 (.s 23))) 255,
 vD (vT 18 25 (.mv (.s 2))) 7,
 vD (vT 18 26 (.mv (.s 4))) 7,
 vD (vT 18 27 (.ias 8 (.s 25) (.s 26))) 1543,
 vD (vT 18 28 (.fa (.s 27) 0)) 3591,
 vD (vT 18 29 (.ld true 2 (.s 28))) 7687,
 vD (vT 18 30 (.eq false (.cells [.int, .int]) (.s 24) (.s 29))) 16383,
 vD (vP 31 (.pick (.s 18) (.s 30) (.c (.bool false)))) 32767])
 (.cond (.s 31) (.seq (.region [vP 2 (.mv (.c (.slice none 0 0))),
 vP 3 (.mv (.c (.bool false)))])
 (.ret))
 (.skip)))))
 (.region [vP 32 (vc .add 13 1),
 vM 13 32])))
def k61 : Cd :=
  .seq (.region [vP 2 (.mv (.c (.slice none 0 0))),
 vP 3 (.mv (.c (.bool false)))])
 (.seq (.region [vM 5 0,
 vN 6 67 [(.s 5)],
 vM 2 6])
 (.seq (.region [vM 7 2,
 vN 8 68 [(.s 7), (.f 69)]])
 (.seq (.region [vM 9 2,
 vN 10 70 [(.s 9)],
 vM 2 10])
 (.seq (.seq (.region [vM 11 2,
 vP 12 (.len (.s 11)),
 vP 13 (.mv (vi 0))])
 (.block 0 (.loop k61l0)))
 (.seq (.region [vM 33 2,
 vM 2 33,
 vP 3 (.mv (.c (.bool true)))])
 (.ret))))))
def k62 : Cd :=
  .seq (.region [vP 3 (.box 51 4 (.s 0)),
 vP 4 (.alloc 51 [(.slice none 0 0), (.slice none 0 0), (.slice none 0 0), (.slice none 0 0)])])
 (.seq (.region [vP 5 (.ld true 4 (.s 3)),
 vN 6 35 [(.s 5)],
 ⟨none, none, .inl (.st 4 (.s 3) (.s 6))⟩])
 (.seq (.draw [vD (vL 7 1 1) 0,
 vD (vL 8 1 2) 0,
 vD (vF 9 3 0) 0,
 vD (vP 10 (.iaa 2 2 (.s 9) (.s 8))) 6,
 ⟨⟨none, some 11, .inr (.val false (.s 7) [(.s 10)])⟩, none, [], 15, false⟩])
 (.seq (.region [vP 12 (.ld true 4 (.s 3)),
 ⟨none, none, .inl (.st 4 (.s 4) (.s 12))⟩])
 (.ret))))
def k63 : Cd :=
  .seq (.region [vP 2 (.mv (.c (.bool false)))])
 (.seq (.region [vM 3 0,
 vM 4 0,
 vP 5 (vb .neq 3 4),
 vM 2 5])
 (.ret))
def k64l0 : Cd :=
  .seq (.region [vP 9 (vb .lss 8 7)])
 (.seq (.cond (.s 9) (.skip)
 (.exit 0))
 (.seq (.block 1 (.seq (.region [vM 10 8,
 vM 5 10])
 (.seq (.region [vM 11 1,
 vM 12 0,
 vM 13 5,
 vI 14 1 12 13,
 vL 15 1 14,
 vP 16 (vb .eql 11 15)])
 (.cond (.s 16) (.seq (.region [vM 17 5,
 vM 4 17])
 (.ret))
 (.skip)))))
 (.region [vP 18 (vc .add 8 1),
 vM 8 18])))
def k64 : Cd :=
  .seq (.region [vP 4 (.mv (vi 0))])
 (.seq (.seq (.region [vM 6 0,
 vP 7 (.len (.s 6)),
 vP 8 (.mv (vi 0))])
 (.block 0 (.loop k64l0)))
 (.seq (.region [vP 4 (.mv (.c (.int .i64 (-1))))])
 (.ret)))
def k65 : Cd :=
  .seq (.region [vP 4 (.mv (.c (.bool false)))])
 (.seq (.region [vM 5 0,
 vP 6 (.len (.s 5)),
 vM 7 1,
 vP 8 (.len (.s 7)),
 vP 9 (vb .geq 6 8),
 vM 10 9,
 vT 10 11 (.mv (.s 0)),
 vT 10 12 (.mv (.s 1)),
 vT 10 13 (.len (.s 12)),
 vT 10 14 (.slc 1 (.s 11) none (some (.s 13)) none),
 vT 10 15 (.mv (.s 1)),
 ⟨some (10, true), some 16, .inr (.fn 71 [(.s 14), (.s 15)])⟩,
 vP 17 (.pick (.s 10) (.s 16) (.c (.bool false))),
 vM 4 17])
 (.ret))
def k66l0 : Cd :=
  .block 1 (.seq (.region [vM 9 0,
 vM 10 5,
 vP 11 (.slc 1 (.s 9) (some (.s 10)) none none),
 vN 12 72 [(.s 11)],
 vM 8 12,
 vP 13 (.ex (.s 8) 0),
 vP 14 (.ex (.s 8) 1),
 ⟨none, some 6, .inl (.alloc 25 [(.int .i64 0), (.int .i64 0), (.int .i64 0), (.int .i64 0), (.int .i64 0), (.int .i64 0), (.int .i64 0), (.string ⟨#[]⟩)])⟩,
 ⟨none, none, .inl (.st 8 (.s 6) (.s 13))⟩,
 vM 7 14])
 (.seq (.seq (.region [vM 15 7,
 vP 16 (vc .eql 15 0)])
 (.cond (.s 16) (.seq (.region [vM 17 4,
 vM 18 5,
 vM 2 17,
 vM 3 18])
 (.ret))
 (.skip)))
 (.seq (.region [vM 19 4,
 vP 20 (.ld true 8 (.s 6)),
 ⟨none, some 21, .inl (.bs 25 8 1 [(.int .i64 0), (.int .i64 0), (.int .i64 0), (.int .i64 0), (.int .i64 0), (.int .i64 0), (.int .i64 0), (.string ⟨#[]⟩)] [(0, (.s 20))])⟩,
 vP 22 (.app 25 8 72 (.s 19) (.s 21)),
 vM 4 22])
 (.region [vM 23 5,
 vM 24 7,
 vP 25 (vb .add 23 24),
 vM 5 25]))))
def k66 : Cd :=
  .seq (.region [vP 2 (.mv (.c (.slice none 0 0))),
 vP 3 (.mv (vi 0))])
 (.seq (.region [vP 4 (.mv (.c (.slice none 0 0)))])
 (.seq (.region [vP 5 (.mv (vi 0))])
 (.block 0 (.loop k66l0))))
def k67l0 : Cd :=
  .seq (.region [vP 12 (vb .lss 11 10)])
 (.seq (.cond (.s 12) (.skip)
 (.exit 0))
 (.seq (.block 1 (.seq (.region [vI 13 1 9 11,
 vL 14 1 13,
 vM 5 14])
 (.seq (.region [vM 15 3,
 vM 16 5,
 vP 17 (.len (.s 16)),
 vP 18 (vb .add 15 17),
 vM 3 18])
 (.seq (.region [vM 19 3,
 vP 20 (vc .lss 19 0)])
 (.cond (.s 20) (.region [⟨none, some 21, .inl (.mki 9 (.c (.string ⟨#[108, 101, 110, 32, 111, 117, 116, 32, 111, 102, 32, 114, 97, 110, 103, 101]⟩)))⟩,
 ⟨none, none, .inr (.pan (.s 21))⟩])
 (.skip))))))
 (.region [vP 22 (vc .add 11 1),
 vM 11 22])))
def k67l1 : Cd :=
  .seq (.region [vP 28 (vb .lss 27 26)])
 (.seq (.cond (.s 28) (.skip)
 (.exit 2))
 (.seq (.block 3 (.seq (.region [vI 29 1 25 27,
 vL 30 1 29,
 vM 8 30])
 (.region [vM 31 6,
 vM 32 8,
 vP 33 (.app 25 8 72 (.s 31) (.s 32)),
 vM 6 33])))
 (.region [vP 34 (vc .add 27 1),
 vM 27 34])))
def k67 : Cd :=
  .seq (.region [vP 2 (.mv (.c (.slice none 0 0)))])
 (.seq (.region [vP 3 (.mv (vi 0))])
 (.seq (.seq (.region [vM 9 0,
 vP 10 (.len (.s 9)),
 vP 11 (.mv (vi 0))])
 (.block 0 (.loop k67l0)))
 (.seq (.region [vM 23 3,
 vN 24 73 [(.c (.slice none 0 0)), (.s 23)],
 vM 6 24])
 (.seq (.seq (.region [vM 25 0,
 vP 26 (.len (.s 25)),
 vP 27 (.mv (vi 0))])
 (.block 2 (.loop k67l1)))
 (.seq (.region [vM 35 6,
 vM 2 35])
 (.ret))))))
def k68 : Cd :=
  .seq (.region [vM 5 0,
 vP 6 (.len (.s 5)),
 vM 4 6])
 (.region [vM 7 0,
 vM 8 4,
 vM 9 4,
 vP 10 (.cvi .u64 (.s 9)),
 vN 11 75 [(.s 10)],
 vM 12 1,
 vN 13 74 [(.s 7), (vi 0), (.s 8), (.s 11), (.s 12)]])
def k69 : Cd :=
  .seq (.region [vP 2 (.box 25 8 (.s 0)),
 vP 3 (.box 25 8 (.s 1)),
 vP 4 (.mv (vi 0))])
 (.seq (.region [vF 5 2 0,
 vP 6 (.ld true 2 (.s 5)),
 vF 7 3 0,
 vP 8 (.ld true 2 (.s 7)),
 vN 9 40 [(.s 6), (.s 8)],
 vM 4 9])
 (.ret))
def k70l0 : Cd :=
  .seq (.seq (.region [vM 29 5,
 vM 30 4,
 vP 31 (.len (.s 30)),
 vP 32 (vb .lss 29 31)])
 (.cond (.s 32) (.skip)
 (.exit 2)))
 (.seq (.block 3 (.seq (.draw [vD (vM 35 4) 0,
 vD (vM 36 5) 0,
 vD (vI 37 8 35 36) 3,
 vD (vP 38 (.ld true 8 (.s 37))) 7,
 vD (vM 39 4) 0,
 vD (vM 40 5) 0,
 vD (vP 41 (vc .sub 40 1)) 32,
 vD (vI 42 8 39 41) 112,
 vD (vP 43 (.ld true 8 (.s 42))) 240,
 vD (vP 44 (.eq true (.cells [.int, .int, .int, .int, .int, .int, .int, .str]) (.s 38) (.s 43))) 511])
 (.cond (.s 44) (.seq (.region [vM 45 0,
 vM 46 3,
 vM 47 4,
 vM 48 5,
 vI 49 8 47 48,
 vP 50 (.ld true 8 (.s 49)),
 vI 51 8 45 46,
 ⟨none, none, .inl (.st 8 (.s 51) (.s 50))⟩])
 (.region [vM 52 3,
 vP 53 (vc .add 52 1),
 vM 3 53]))
 (.skip))))
 (.region [vM 33 5,
 vP 34 (vc .add 33 1),
 vM 5 34]))
def k70l1 : Cd :=
  .seq (.seq (.region [vM 10 3,
 vM 11 0,
 vP 12 (.len (.s 11)),
 vP 13 (vb .lss 10 12)])
 (.cond (.s 13) (.skip)
 (.exit 0)))
 (.seq (.block 1 (.seq (.draw [vD (vM 16 0) 0,
 vD (vM 17 3) 0,
 vD (vI 18 8 16 17) 3,
 vD (vP 19 (.ld true 8 (.s 18))) 7,
 vD (vM 20 0) 0,
 vD (vM 21 3) 0,
 vD (vP 22 (vc .sub 21 1)) 32,
 vD (vI 23 8 20 22) 112,
 vD (vP 24 (.ld true 8 (.s 23))) 240,
 vD (vP 25 (.eq false (.cells [.int, .int, .int, .int, .int, .int, .int, .str]) (.s 19) (.s 24))) 511])
 (.cond (.s 25) (.seq (.region [vM 26 0,
 vM 27 3,
 vP 28 (.slc 8 (.s 26) (some (.s 27)) none none),
 vM 4 28])
 (.seq (.seq (.region [vP 5 (.mv (vi 1))])
 (.block 2 (.loop k70l0)))
 (.seq (.region [vM 54 0,
 vM 55 3,
 vP 56 (.slc 8 (.s 54) (some (.s 55)) none none),
 ⟨none, none, .inl (.clr [(.int .i64 0), (.int .i64 0), (.int .i64 0), (.int .i64 0), (.int .i64 0), (.int .i64 0), (.int .i64 0), (.string ⟨#[]⟩)] (.s 56))⟩])
 (.seq (.region [vM 57 0,
 vM 58 3,
 vP 59 (.slc 8 (.s 57) none (some (.s 58)) none),
 vM 2 59])
 (.ret)))))
 (.skip))))
 (.region [vM 14 3,
 vP 15 (vc .add 14 1),
 vM 3 15]))
def k70 : Cd :=
  .seq (.region [vP 2 (.mv (.c (.slice none 0 0)))])
 (.seq (.seq (.region [vM 6 0,
 vP 7 (.len (.s 6)),
 vP 8 (vc .lss 7 2)])
 (.cond (.s 8) (.seq (.region [vM 9 0,
 vM 2 9])
 (.ret))
 (.skip)))
 (.seq (.seq (.region [vP 3 (.mv (vi 1))])
 (.block 0 (.loop k70l1)))
 (.seq (.region [vM 60 0,
 vM 2 60])
 (.ret))))
def k71 : Cd :=
  .seq (.region [vP 4 (.mv (.c (.bool false)))])
 (.seq (.region [vM 5 0,
 vP 6 (.b2s (.s 5)),
 vM 7 1,
 vP 8 (.b2s (.s 7)),
 vP 9 (vb .eql 6 8),
 vM 4 9])
 (.ret))
def k72 : Cd :=
  .seq (.region [⟨none, some 2, .inl (.alloc 25 [(.int .i64 0), (.int .i64 0), (.int .i64 0), (.int .i64 0), (.int .i64 0), (.int .i64 0), (.int .i64 0), (.string ⟨#[]⟩)])⟩,
 vP 3 (.mv (vi 0))])
 (.seq (.seq (.region [vM 6 0,
 vP 7 (.len (.s 6)),
 vP 8 (vc .lss 7 8)])
 (.cond (.s 8) (.seq (.region [⟨none, some 9, .inl (.bld [(.int .i64 0), (.int .i64 0), (.int .i64 0), (.int .i64 0), (.int .i64 0), (.int .i64 0), (.int .i64 0), (.string ⟨#[]⟩)] [])⟩,
 ⟨none, none, .inl (.st 8 (.s 2) (.s 9))⟩,
 vP 3 (.mv (vi 0))])
 (.ret))
 (.skip)))
 (.seq (.region [vM 10 0,
 vN 11 11 [(.s 10)],
 vP 12 (.cvi .i64 (.s 11)),
 vM 3 12])
 (.seq (.seq (.region [vM 13 3,
 vM 14 0,
 vP 15 (.len (.s 14)),
 vP 16 (vc .sub 15 8),
 vN 17 10 [(.s 13), (vi 0), (.s 16)],
 vP 18 (.not (.s 17))])
 (.cond (.s 18) (.seq (.region [⟨none, some 19, .inl (.bld [(.int .i64 0), (.int .i64 0), (.int .i64 0), (.int .i64 0), (.int .i64 0), (.int .i64 0), (.int .i64 0), (.string ⟨#[]⟩)] [])⟩,
 ⟨none, none, .inl (.st 8 (.s 2) (.s 19))⟩,
 vP 3 (.mv (vi 0))])
 (.ret))
 (.skip)))
 (.seq (.region [vM 20 3,
 vP 21 (vc .add 20 8),
 vM 3 21])
 (.seq (.region [vM 22 0,
 vM 23 3,
 vP 24 (.slc 1 (.s 22) (some (vi 8)) (some (.s 23)) none),
 vM 4 24])
 (.seq (.seq (.draw [vD (vM 25 4) 0,
 vD (vN 26 19 [(.s 25)]) 1,
 vD (vM 27 0) 0,
 vD (vP 28 (.slc 1 (.s 27) (some (vi 4)) none none)) 4,
 vD (vN 29 11 [(.s 28)]) 15,
 vD (vP 30 (vb .neq 26 29)) 31])
 (.cond (.s 30) (.seq (.region [⟨none, some 31, .inl (.bld [(.int .i64 0), (.int .i64 0), (.int .i64 0), (.int .i64 0), (.int .i64 0), (.int .i64 0), (.int .i64 0), (.string ⟨#[]⟩)] [])⟩,
 ⟨none, none, .inl (.st 8 (.s 2) (.s 31))⟩,
 vP 3 (.mv (vi 0))])
 (.ret))
 (.skip)))
 (.seq (.region [vM 33 4,
 vN 34 5 [(.s 33)],
 vM 32 34,
 vP 35 (.ex (.s 32) 0),
 vP 36 (.ex (.s 32) 1),
 ⟨none, none, .inl (.st 8 (.s 2) (.s 35))⟩,
 vM 5 36])
 (.seq (.seq (.region [vM 37 5,
 vP 38 (vc .neq 37 0)])
 (.cond (.s 38) (.seq (.region [⟨none, some 39, .inl (.bld [(.int .i64 0), (.int .i64 0), (.int .i64 0), (.int .i64 0), (.int .i64 0), (.int .i64 0), (.int .i64 0), (.string ⟨#[]⟩)] [])⟩,
 ⟨none, none, .inl (.st 8 (.s 2) (.s 39))⟩,
 vP 3 (.mv (vi 0))])
 (.ret))
 (.skip)))
 (.seq (.region [vP 40 (.ld true 8 (.s 2)),
 vM 41 3,
 ⟨none, none, .inl (.st 8 (.s 2) (.s 40))⟩,
 vM 3 41])
 (.ret))))))))))
def k73 : Cd :=
  .seq (.region [vP 4 (.mv (.c (.slice none 0 0)))])
 (.seq (.seq (.region [vM 5 1,
 vP 6 (vc .lss 5 0)])
 (.cond (.s 6) (.region [⟨none, some 7, .inl (.mki 9 (.c (.string ⟨#[99, 97, 110, 110, 111, 116, 32, 98, 101, 32, 110, 101, 103, 97, 116, 105, 118, 101]⟩)))⟩,
 ⟨none, none, .inr (.pan (.s 7))⟩])
 (.skip)))
 (.seq (.seq (.region [vM 8 1,
 vM 9 0,
 vP 10 (.cap (.s 9)),
 vM 11 0,
 vP 12 (.len (.s 11)),
 vP 13 (vb .sub 10 12),
 vP 14 (vb .sub 8 13),
 vM 1 14])
 (.seq (.region [vM 15 1,
 vP 16 (vc .gtr 15 0)])
 (.cond (.s 16) (.region [vM 17 0,
 vM 18 0,
 vP 19 (.cap (.s 18)),
 vP 20 (.slc 8 (.s 17) none (some (.s 19)) none),
 vM 21 1,
 ⟨none, some 22, .inl (.apz 25 8 72 [(.int .i64 0), (.int .i64 0), (.int .i64 0), (.int .i64 0), (.int .i64 0), (.int .i64 0), (.int .i64 0), (.string ⟨#[]⟩)] (.s 20) (.s 21))⟩,
 vM 23 0,
 vP 24 (.len (.s 23)),
 vP 25 (.slc 8 (.s 22) none (some (.s 24)) none),
 vM 0 25])
 (.skip))))
 (.seq (.region [vM 26 0,
 vM 4 26])
 (.ret))))
def k74l0 : Cd :=
  .block 1 (.seq (.region [vM 21 2,
 vM 22 1,
 vP 23 (vb .sub 21 22),
 vM 12 23])
 (.seq (.seq (.region [vM 24 12,
 vP 25 (vc .leq 24 12)])
 (.cond (.s 25) (.seq (.region [vM 26 0,
 vM 27 1,
 vM 28 2,
 vM 29 4,
 vN 30 76 [(.s 26), (.s 27), (.s 28), (.s 29)]])
 (.ret))
 (.skip)))
 (.seq (.seq (.region [vM 31 3,
 vP 32 (vc .eql 31 0)])
 (.cond (.s 32) (.seq (.region [vM 33 0,
 vM 34 1,
 vM 35 2,
 vM 36 4,
 vN 37 77 [(.s 33), (.s 34), (.s 35), (.s 36)]])
 (.ret))
 (.skip)))
 (.seq (.seq (.region [vM 38 10,
 vP 39 (.not (.s 38))])
 (.cond (.s 39) (.seq (.region [vM 40 0,
 vM 41 1,
 vM 42 2,
 vM 43 4,
 vN 44 78 [(.s 40), (.s 41), (.s 42), (.s 43)]])
 (.region [vM 45 3,
 vP 46 (vc .sub 45 1),
 vM 3 46]))
 (.skip)))
 (.seq (.region [vM 48 0,
 vM 49 1,
 vM 50 2,
 vM 51 4,
 vN 52 79 [(.s 48), (.s 49), (.s 50), (.s 51)],
 vM 47 52,
 vP 53 (.ex (.s 47) 0),
 vP 54 (.ex (.s 47) 1),
 vM 13 53,
 vM 14 54])
 (.seq (.seq (.region [vM 55 14,
 vP 56 (vc .eql 55 2)])
 (.cond (.s 56) (.seq (.region [vM 57 0,
 vM 58 1,
 vM 59 2,
 vM 60 4,
 vN 61 80 [(.s 57), (.s 58), (.s 59), (.s 60)]])
 (.seq (.region [vM 62 2,
 vP 63 (vc .sub 62 1),
 vM 64 13,
 vM 65 1,
 vP 66 (vb .sub 64 65),
 vP 67 (vb .sub 63 66),
 vM 13 67])
 (.region [vP 14 (.mv (vi 1))])))
 (.skip)))
 (.seq (.seq (.region [vM 68 10,
 vM 69 68,
 vT 69 70 (.mv (.s 11)),
 vP 71 (.pick (.s 69) (.s 70) (.c (.bool false))),
 vM 72 71,
 vT 72 73 (.mv (.s 14)),
 vT 72 74 (vc .eql 73 1),
 vP 75 (.pick (.s 72) (.s 74) (.c (.bool false)))])
 (.cond (.s 75) (.seq (.region [vM 76 0,
 vM 77 1,
 vM 78 2,
 vM 79 4,
 vN 80 81 [(.s 76), (.s 77), (.s 78), (.s 79)]])
 (.cond (.s 80) (.ret)
 (.skip)))
 (.skip)))
 (.seq (.seq (.draw [vD (vM 81 1) 0,
 vD (vP 82 (vc .gtr 81 0)) 1,
 vD (vM 83 82) 3,
 vD (vT 83 84 (.mv (.s 4))) 7,
 vD (vT 83 85 (.mv (.s 0))) 7,
 vD (vT 83 86 (.mv (.s 1))) 7,
 vD (vT 83 87 (vc .sub 86 1)) 39,
 vD (vT 83 88 (.ias 8 (.s 85) (.s 87))) 119,
 vD (vT 83 89 (.ld true 8 (.s 88))) 247,
 vD (vT 83 90 (.mv (.s 0))) 7,
 vD (vT 83 91 (.mv (.s 13))) 7,
 vD (vT 83 92 (.ias 8 (.s 90) (.s 91))) 1543,
 vD (vT 83 93 (.ld true 8 (.s 92))) 3591,
 ⟨⟨some (83, true), some 94, .inr (.val true (.s 84) [(.s 89), (.s 93)])⟩, some [], [], 8191, false⟩,
 vD (vT 83 95 (vc .lss 94 0)) 16383,
 vD (vT 83 96 (.not (.s 95))) 32767,
 vD (vP 97 (.pick (.s 83) (.s 96) (.c (.bool false)))) 65535])
 (.cond (.s 97) (.seq (.region [vM 98 0,
 vM 99 1,
 vM 100 2,
 vM 101 13,
 vM 102 4,
 vN 103 82 [(.s 98), (.s 99), (.s 100), (.s 101), (.s 102)],
 vM 15 103])
 (.seq (.region [vM 104 15,
 vM 1 104])
 (.exit 1)))
 (.skip)))
 (.seq (.region [vM 106 0,
 vM 107 1,
 vM 108 2,
 vM 109 13,
 vM 110 4,
 vN 111 83 [(.s 106), (.s 107), (.s 108), (.s 109), (.s 110)],
 vM 105 111,
 vP 112 (.ex (.s 105) 0),
 vP 113 (.ex (.s 105) 1),
 vM 16 112,
 vM 17 113])
 (.seq (.region [vM 114 17,
 vM 11 114])
 (.seq (.region [vM 115 16,
 vM 116 1,
 vP 117 (vb .sub 115 116),
 vM 118 2,
 vM 119 16,
 vP 120 (vb .sub 118 119),
 vM 18 117,
 vM 19 120])
 (.seq (.region [vM 121 12,
 vP 122 (vc .quo 121 8),
 vM 20 122])
 (.seq (.region [vM 123 18,
 vM 124 19,
 vP 125 (vb .lss 123 124)])
 (.cond (.s 125) (.seq (.region [vM 126 18,
 vM 127 20,
 vP 128 (vb .geq 126 127),
 vM 10 128])
 (.seq (.region [vM 129 0,
 vM 130 1,
 vM 131 16,
 vM 132 3,
 vM 133 4,
 vN 134 74 [(.s 129), (.s 130), (.s 131), (.s 132), (.s 133)]])
 (.region [vM 135 16,
 vP 136 (vc .add 135 1),
 vM 1 136])))
 (.seq (.region [vM 137 19,
 vM 138 20,
 vP 139 (vb .geq 137 138),
 vM 10 139])
 (.seq (.region [vM 140 0,
 vM 141 16,
 vP 142 (vc .add 141 1),
 vM 143 2,
 vM 144 3,
 vM 145 4,
 vN 146 74 [(.s 140), (.s 142), (.s 143), (.s 144), (.s 145)]])
 (.region [vM 147 16,
 vM 2 147])))))))))))))))))
def k74 : Cd :=
  .seq (.region [vP 10 (.mv (.c (.bool true)))])
 (.seq (.region [vP 11 (.mv (.c (.bool true)))])
 (.block 0 (.loop k74l0)))
def k75 : Cd :=
  .seq (.region [vP 2 (.mv (vi 0))])
 (.seq (.cond (.c (.bool false)) (.seq (.region [vM 3 0,
 vP 4 (.cvi .u32 (.s 3)),
 vN 5 84 [(.s 4)],
 vM 2 5])
 (.ret))
 (.skip))
 (.seq (.region [vM 6 0,
 vN 7 85 [(.s 6)],
 vM 2 7])
 (.ret)))
def k76l0 : Cd :=
  .seq (.seq (.draw [vD (vM 18 9) 0,
 vD (vM 19 1) 0,
 vD (vP 20 (vb .gtr 18 19)) 3,
 vD (vM 21 20) 7,
 vD (vT 21 22 (.mv (.s 3))) 15,
 vD (vT 21 23 (.mv (.s 0))) 15,
 vD (vT 21 24 (.mv (.s 9))) 15,
 vD (vT 21 25 (.ias 8 (.s 23) (.s 24))) 111,
 vD (vT 21 26 (.ld true 8 (.s 25))) 239,
 vD (vT 21 27 (.mv (.s 0))) 15,
 vD (vT 21 28 (.mv (.s 9))) 15,
 vD (vT 21 29 (vc .sub 28 1)) 1039,
 vD (vT 21 30 (.ias 8 (.s 27) (.s 29))) 3599,
 vD (vT 21 31 (.ld true 8 (.s 30))) 7695,
 ⟨⟨some (21, true), some 32, .inr (.val true (.s 22) [(.s 26), (.s 31)])⟩, some [], [], 16383, false⟩,
 vD (vT 21 33 (vc .lss 32 0)) 32767,
 vD (vP 34 (.pick (.s 21) (.s 33) (.c (.bool false)))) 65535])
 (.cond (.s 34) (.skip)
 (.exit 2)))
 (.seq (.block 3 (.draw [vD (vM 37 0) 0,
 vD (vM 38 9) 0,
 vD (vM 39 0) 0,
 vD (vM 40 9) 0,
 vD (vP 41 (vc .sub 40 1)) 8,
 vD (vM 42 0) 0,
 vD (vM 43 9) 0,
 vD (vP 44 (vc .sub 43 1)) 64,
 vD (vI 45 8 42 44) 224,
 vD (vP 46 (.ld true 8 (.s 45))) 480,
 vD (vM 47 0) 0,
 vD (vM 48 9) 0,
 vD (vI 49 8 47 48) 3072,
 vD (vP 50 (.ld true 8 (.s 49))) 7168,
 vD (vI 51 8 37 38) 16355,
 ⟨⟨none, none, .inl (.st 8 (.s 51) (.s 46))⟩, (some [.at 0]), [], 32739, false⟩,
 vD (vI 52 8 39 41) 65535,
 ⟨⟨none, none, .inl (.st 8 (.s 52) (.s 50))⟩, (some [.at 0]), [], 131071, false⟩]))
 (.region [vM 35 9,
 vP 36 (vc .sub 35 1),
 vM 9 36]))
def k76l1 : Cd :=
  .seq (.seq (.region [vM 12 8,
 vM 13 2,
 vP 14 (vb .lss 12 13)])
 (.cond (.s 14) (.skip)
 (.exit 0)))
 (.seq (.block 1 (.seq (.region [vM 17 8,
 vM 9 17])
 (.block 2 (.loop k76l0))))
 (.region [vM 15 8,
 vP 16 (vc .add 15 1),
 vM 8 16]))
def k76 : Cd :=
  .seq (.region [vM 10 1,
 vP 11 (vc .add 10 1),
 vM 8 11])
 (.block 0 (.loop k76l1))
def k77l0 : Cd :=
  .seq (.seq (.region [vM 20 11,
 vP 21 (vc .geq 20 0)])
 (.cond (.s 21) (.skip)
 (.exit 0)))
 (.seq (.block 1 (.region [vM 24 0,
 vM 25 11,
 vM 26 10,
 vM 27 8,
 vM 28 3,
 vN 29 86 [(.s 24), (.s 25), (.s 26), (.s 27), (.s 28)]]))
 (.region [vM 22 11,
 vP 23 (vc .sub 22 1),
 vM 11 23]))
def k77l1 : Cd :=
  .seq (.seq (.region [vM 32 12,
 vP 33 (vc .geq 32 0)])
 (.cond (.s 33) (.skip)
 (.exit 2)))
 (.seq (.block 3 (.seq (.draw [vD (vM 36 0) 0,
 vD (vM 37 8) 0,
 vD (vM 38 0) 0,
 vD (vM 39 8) 0,
 vD (vM 40 12) 0,
 vD (vP 41 (vb .add 39 40)) 24,
 vD (vM 42 0) 0,
 vD (vM 43 8) 0,
 vD (vM 44 12) 0,
 vD (vP 45 (vb .add 43 44)) 384,
 vD (vI 46 8 42 45) 960,
 vD (vP 47 (.ld true 8 (.s 46))) 1984,
 vD (vM 48 0) 0,
 vD (vM 49 8) 0,
 vD (vI 50 8 48 49) 12288,
 vD (vP 51 (.ld true 8 (.s 50))) 28672,
 vD (vI 52 8 36 37) 65475,
 ⟨⟨none, none, .inl (.st 8 (.s 52) (.s 47))⟩, (some [.at 0]), [], 131011, false⟩,
 vD (vI 53 8 38 41) 262143,
 ⟨⟨none, none, .inl (.st 8 (.s 53) (.s 51))⟩, (some [.at 0]), [], 524287, false⟩])
 (.region [vM 54 0,
 vM 55 9,
 vM 56 12,
 vM 57 8,
 vM 58 3,
 vN 59 86 [(.s 54), (.s 55), (.s 56), (.s 57), (.s 58)]])))
 (.region [vM 34 12,
 vP 35 (vc .sub 34 1),
 vM 12 35]))
def k77 : Cd :=
  .seq (.region [vM 13 1,
 vM 8 13])
 (.seq (.region [vP 9 (.mv (vi 0))])
 (.seq (.region [vM 14 2,
 vM 15 1,
 vP 16 (vb .sub 14 15),
 vM 10 16])
 (.seq (.seq (.region [vM 17 10,
 vP 18 (vc .sub 17 1),
 vP 19 (vc .quo 18 2),
 vM 11 19])
 (.block 0 (.loop k77l0)))
 (.seq (.region [vM 30 10,
 vP 31 (vc .sub 30 1),
 vM 12 31])
 (.block 2 (.loop k77l1))))))
def k78l0 : Cd :=
  .seq (.seq (.region [vM 28 11,
 vM 29 1,
 vM 30 8,
 vP 31 (vc .quo 30 4),
 vP 32 (vc .mul 31 2),
 vP 33 (vb .add 29 32),
 vP 34 (vc .add 33 1),
 vP 35 (vb .leq 28 34)])
 (.cond (.s 35) (.skip)
 (.exit 0)))
 (.seq (.block 1 (.seq (.region [vN 38 88 [(.s 9)],
 vM 39 10,
 vP 40 (.bin .sub (.s 39) (.c (.int .u64 1))),
 vP 41 (vb .and 38 40),
 vP 42 (.cvi .i64 (.s 41)),
 vM 12 42])
 (.seq (.seq (.region [vM 43 12,
 vM 44 8,
 vP 45 (vb .geq 43 44)])
 (.cond (.s 45) (.region [vM 46 12,
 vM 47 8,
 vP 48 (vb .sub 46 47),
 vM 12 48])
 (.skip)))
 (.draw [vD (vM 49 0) 0,
 vD (vM 50 11) 0,
 vD (vM 51 0) 0,
 vD (vM 52 1) 0,
 vD (vM 53 12) 0,
 vD (vP 54 (vb .add 52 53)) 24,
 vD (vM 55 0) 0,
 vD (vM 56 1) 0,
 vD (vM 57 12) 0,
 vD (vP 58 (vb .add 56 57)) 384,
 vD (vI 59 8 55 58) 960,
 vD (vP 60 (.ld true 8 (.s 59))) 1984,
 vD (vM 61 0) 0,
 vD (vM 62 11) 0,
 vD (vI 63 8 61 62) 12288,
 vD (vP 64 (.ld true 8 (.s 63))) 28672,
 vD (vI 65 8 49 50) 65475,
 ⟨⟨none, none, .inl (.st 8 (.s 65) (.s 60))⟩, (some [.at 0]), [], 131011, false⟩,
 vD (vI 66 8 51 54) 262143,
 ⟨⟨none, none, .inl (.st 8 (.s 66) (.s 64))⟩, (some [.at 0]), [], 524287, false⟩]))))
 (.region [vM 36 11,
 vP 37 (vc .add 36 1),
 vM 11 37]))
def k78 : Cd :=
  .seq (.region [vM 13 2,
 vM 14 1,
 vP 15 (vb .sub 13 14),
 vM 8 15])
 (.seq (.region [vM 16 8,
 vP 17 (vc .geq 16 8)])
 (.cond (.s 17) (.seq (.region [vM 18 8,
 vP 19 (.cvi .u64 (.s 18)),
 vP 9 (.alloc 128 [(.int .u64 0)]),
 ⟨none, none, .inl (.st 1 (.s 9) (.s 19))⟩])
 (.seq (.region [vM 20 8,
 vN 21 87 [(.s 20)],
 vM 10 21])
 (.seq (.region [vM 22 1,
 vM 23 8,
 vP 24 (vc .quo 23 4),
 vP 25 (vc .mul 24 2),
 vP 26 (vb .add 22 25),
 vP 27 (vc .sub 26 1),
 vM 11 27])
 (.block 0 (.loop k78l0)))))
 (.skip)))
def k79 : Cd :=
  .seq (.region [vP 8 (.mv (vi 0)),
 vP 9 (.mv (vi 0))])
 (.seq (.region [vM 15 2,
 vM 16 1,
 vP 17 (vb .sub 15 16),
 vM 10 17])
 (.seq (.region [vP 11 (.alloc 3 [(.int .i64 0)])])
 (.seq (.region [vM 18 1,
 vM 19 10,
 vP 20 (vc .quo 19 4),
 vP 21 (vc .mul 20 1),
 vP 22 (vb .add 18 21),
 vM 12 22])
 (.seq (.region [vM 23 1,
 vM 24 10,
 vP 25 (vc .quo 24 4),
 vP 26 (vc .mul 25 2),
 vP 27 (vb .add 23 26),
 vM 13 27])
 (.seq (.region [vM 28 1,
 vM 29 10,
 vP 30 (vc .quo 29 4),
 vP 31 (vc .mul 30 3),
 vP 32 (vb .add 28 31),
 vM 14 32])
 (.seq (.seq (.region [vM 33 10,
 vP 34 (vc .geq 33 8)])
 (.cond (.s 34) (.seq (.seq (.region [vM 35 10,
 vP 36 (vc .geq 35 50)])
 (.cond (.s 36) (.seq (.region [vM 37 0,
 vM 38 12,
 vM 39 3,
 vN 40 89 [(.s 37), (.s 38), (.s 11), (.s 39)],
 vM 12 40])
 (.seq (.region [vM 41 0,
 vM 42 13,
 vM 43 3,
 vN 44 89 [(.s 41), (.s 42), (.s 11), (.s 43)],
 vM 13 44])
 (.region [vM 45 0,
 vM 46 14,
 vM 47 3,
 vN 48 89 [(.s 45), (.s 46), (.s 11), (.s 47)],
 vM 14 48])))
 (.skip)))
 (.region [vM 49 0,
 vM 50 12,
 vM 51 13,
 vM 52 14,
 vM 53 3,
 vN 54 90 [(.s 49), (.s 50), (.s 51), (.s 52), (.s 11), (.s 53)],
 vM 13 54]))
 (.skip)))
 (.seq (.region [vL 55 1 11])
 (.block 0 (.seq (.region [vP 58 (vc .eql 55 0),
 vM 57 58])
 (.cond (.s 57) (.seq (.region [vM 59 13,
 vM 8 59,
 vP 9 (.mv (vi 1))])
 (.ret))
 (.seq (.region [vP 61 (vc .eql 55 12),
 vM 60 61])
 (.cond (.s 60) (.seq (.region [vM 62 13,
 vM 8 62,
 vP 9 (.mv (vi 2))])
 (.ret))
 (.seq (.region [vM 56 13,
 vM 8 56,
 vP 9 (.mv (vi 0))])
 (.ret))))))))))))))
def k80l0 : Cd :=
  .seq (.seq (.region [vM 13 8,
 vM 14 9,
 vP 15 (vb .lss 13 14)])
 (.cond (.s 15) (.skip)
 (.exit 0)))
 (.block 1 (.seq (.draw [vD (vM 16 0) 0,
 vD (vM 17 8) 0,
 vD (vM 18 0) 0,
 vD (vM 19 9) 0,
 vD (vM 20 0) 0,
 vD (vM 21 9) 0,
 vD (vI 22 8 20 21) 48,
 vD (vP 23 (.ld true 8 (.s 22))) 112,
 vD (vM 24 0) 0,
 vD (vM 25 8) 0,
 vD (vI 26 8 24 25) 768,
 vD (vP 27 (.ld true 8 (.s 26))) 1792,
 vD (vI 28 8 16 17) 4083,
 ⟨⟨none, none, .inl (.st 8 (.s 28) (.s 23))⟩, (some [.at 0]), [], 8179, false⟩,
 vD (vI 29 8 18 19) 16383,
 ⟨⟨none, none, .inl (.st 8 (.s 29) (.s 27))⟩, (some [.at 0]), [], 32767, false⟩])
 (.seq (.region [vM 30 8,
 vP 31 (vc .add 30 1),
 vM 8 31])
 (.region [vM 32 9,
 vP 33 (vc .sub 32 1),
 vM 9 33]))))
def k80 : Cd :=
  .seq (.region [vM 10 1,
 vM 8 10])
 (.seq (.region [vM 11 2,
 vP 12 (vc .sub 11 1),
 vM 9 12])
 (.block 0 (.loop k80l0)))
def k81l0 : Cd :=
  .seq (.seq (.draw [vD (vM 19 9) 0,
 vD (vM 20 2) 0,
 vD (vP 21 (vb .lss 19 20)) 3,
 vD (vM 22 21) 7,
 vD (vT 22 23 (.mv (.s 3))) 15,
 vD (vT 22 24 (.mv (.s 0))) 15,
 vD (vT 22 25 (.mv (.s 9))) 15,
 vD (vT 22 26 (.ias 8 (.s 24) (.s 25))) 111,
 vD (vT 22 27 (.ld true 8 (.s 26))) 239,
 vD (vT 22 28 (.mv (.s 0))) 15,
 vD (vT 22 29 (.mv (.s 9))) 15,
 vD (vT 22 30 (vc .sub 29 1)) 1039,
 vD (vT 22 31 (.ias 8 (.s 28) (.s 30))) 3599,
 vD (vT 22 32 (.ld true 8 (.s 31))) 7695,
 ⟨⟨some (22, true), some 33, .inr (.val true (.s 23) [(.s 27), (.s 32)])⟩, some [], [], 16383, false⟩,
 vD (vT 22 34 (vc .lss 33 0)) 32767,
 vD (vT 22 35 (.not (.s 34))) 65535,
 vD (vP 36 (.pick (.s 22) (.s 35) (.c (.bool false)))) 131071])
 (.cond (.s 36) (.skip)
 (.exit 2)))
 (.block 3 (.region [vM 37 9,
 vP 38 (vc .add 37 1),
 vM 9 38]))
def k81l1 : Cd :=
  .seq (.seq (.region [vM 68 11,
 vP 69 (vc .geq 68 1)])
 (.cond (.s 69) (.skip)
 (.exit 4)))
 (.seq (.block 5 (.seq (.seq (.draw [vD (vM 72 3) 0,
 vD (vM 73 0) 0,
 vD (vM 74 11) 0,
 vD (vI 75 8 73 74) 6,
 vD (vP 76 (.ld true 8 (.s 75))) 14,
 vD (vM 77 0) 0,
 vD (vM 78 11) 0,
 vD (vP 79 (vc .sub 78 1)) 64,
 vD (vI 80 8 77 79) 224,
 vD (vP 81 (.ld true 8 (.s 80))) 480,
 ⟨⟨none, some 82, .inr (.val false (.s 72) [(.s 76), (.s 81)])⟩, some [], [], 1023, false⟩,
 vD (vP 83 (vc .lss 82 0)) 2047,
 vD (vP 84 (.not (.s 83))) 4095])
 (.cond (.s 84) (.exit 4)
 (.skip)))
 (.draw [vD (vM 85 0) 0,
 vD (vM 86 11) 0,
 vD (vM 87 0) 0,
 vD (vM 88 11) 0,
 vD (vP 89 (vc .sub 88 1)) 8,
 vD (vM 90 0) 0,
 vD (vM 91 11) 0,
 vD (vP 92 (vc .sub 91 1)) 64,
 vD (vI 93 8 90 92) 224,
 vD (vP 94 (.ld true 8 (.s 93))) 480,
 vD (vM 95 0) 0,
 vD (vM 96 11) 0,
 vD (vI 97 8 95 96) 3072,
 vD (vP 98 (.ld true 8 (.s 97))) 7168,
 vD (vI 99 8 85 86) 16355,
 ⟨⟨none, none, .inl (.st 8 (.s 99) (.s 94))⟩, (some [.at 0]), [], 32739, false⟩,
 vD (vI 100 8 87 89) 65535,
 ⟨⟨none, none, .inl (.st 8 (.s 100) (.s 98))⟩, (some [.at 0]), [], 131071, false⟩])))
 (.region [vM 70 11,
 vP 71 (vc .sub 70 1),
 vM 11 71]))
def k81l2 : Cd :=
  .seq (.seq (.region [vM 107 12,
 vM 108 2,
 vP 109 (vb .lss 107 108)])
 (.cond (.s 109) (.skip)
 (.exit 6)))
 (.seq (.block 7 (.seq (.seq (.draw [vD (vM 112 3) 0,
 vD (vM 113 0) 0,
 vD (vM 114 12) 0,
 vD (vI 115 8 113 114) 6,
 vD (vP 116 (.ld true 8 (.s 115))) 14,
 vD (vM 117 0) 0,
 vD (vM 118 12) 0,
 vD (vP 119 (vc .sub 118 1)) 64,
 vD (vI 120 8 117 119) 224,
 vD (vP 121 (.ld true 8 (.s 120))) 480,
 ⟨⟨none, some 122, .inr (.val false (.s 112) [(.s 116), (.s 121)])⟩, some [], [], 1023, false⟩,
 vD (vP 123 (vc .lss 122 0)) 2047,
 vD (vP 124 (.not (.s 123))) 4095])
 (.cond (.s 124) (.exit 6)
 (.skip)))
 (.draw [vD (vM 125 0) 0,
 vD (vM 126 12) 0,
 vD (vM 127 0) 0,
 vD (vM 128 12) 0,
 vD (vP 129 (vc .sub 128 1)) 8,
 vD (vM 130 0) 0,
 vD (vM 131 12) 0,
 vD (vP 132 (vc .sub 131 1)) 64,
 vD (vI 133 8 130 132) 224,
 vD (vP 134 (.ld true 8 (.s 133))) 480,
 vD (vM 135 0) 0,
 vD (vM 136 12) 0,
 vD (vI 137 8 135 136) 3072,
 vD (vP 138 (.ld true 8 (.s 137))) 7168,
 vD (vI 139 8 125 126) 16355,
 ⟨⟨none, none, .inl (.st 8 (.s 139) (.s 134))⟩, (some [.at 0]), [], 32739, false⟩,
 vD (vI 140 8 127 129) 65535,
 ⟨⟨none, none, .inl (.st 8 (.s 140) (.s 138))⟩, (some [.at 0]), [], 131071, false⟩])))
 (.region [vM 110 12,
 vP 111 (vc .add 110 1),
 vM 12 111]))
def k81l3 : Cd :=
  .seq (.seq (.region [vM 15 10,
 vP 16 (vc .lss 15 5)])
 (.cond (.s 16) (.skip)
 (.exit 0)))
 (.seq (.block 1 (.seq (.block 2 (.loop k81l0))
 (.seq (.seq (.region [vM 39 9,
 vM 40 2,
 vP 41 (vb .eql 39 40)])
 (.cond (.s 41) (.seq (.region [vP 8 (.mv (.c (.bool true)))])
 (.ret))
 (.skip)))
 (.seq (.seq (.region [vM 42 2,
 vM 43 1,
 vP 44 (vb .sub 42 43),
 vP 45 (vc .lss 44 50)])
 (.cond (.s 45) (.seq (.region [vP 8 (.mv (.c (.bool false)))])
 (.ret))
 (.skip)))
 (.seq (.draw [vD (vM 46 0) 0,
 vD (vM 47 9) 0,
 vD (vM 48 0) 0,
 vD (vM 49 9) 0,
 vD (vP 50 (vc .sub 49 1)) 8,
 vD (vM 51 0) 0,
 vD (vM 52 9) 0,
 vD (vP 53 (vc .sub 52 1)) 64,
 vD (vI 54 8 51 53) 224,
 vD (vP 55 (.ld true 8 (.s 54))) 480,
 vD (vM 56 0) 0,
 vD (vM 57 9) 0,
 vD (vI 58 8 56 57) 3072,
 vD (vP 59 (.ld true 8 (.s 58))) 7168,
 vD (vI 60 8 46 47) 16355,
 ⟨⟨none, none, .inl (.st 8 (.s 60) (.s 55))⟩, (some [.at 0]), [], 32739, false⟩,
 vD (vI 61 8 48 50) 65535,
 ⟨⟨none, none, .inl (.st 8 (.s 61) (.s 59))⟩, (some [.at 0]), [], 131071, false⟩])
 (.seq (.seq (.region [vM 62 9,
 vM 63 1,
 vP 64 (vb .sub 62 63),
 vP 65 (vc .geq 64 2)])
 (.cond (.s 65) (.seq (.region [vM 66 9,
 vP 67 (vc .sub 66 1),
 vM 11 67])
 (.block 4 (.loop k81l1)))
 (.skip)))
 (.seq (.region [vM 101 2,
 vM 102 9,
 vP 103 (vb .sub 101 102),
 vP 104 (vc .geq 103 2)])
 (.cond (.s 104) (.seq (.region [vM 105 9,
 vP 106 (vc .add 105 1),
 vM 12 106])
 (.block 6 (.loop k81l2)))
 (.skip)))))))))
 (.region [vM 17 10,
 vP 18 (vc .add 17 1),
 vM 10 18]))
def k81 : Cd :=
  .seq (.region [vP 8 (.mv (.c (.bool false)))])
 (.seq (.region [vM 13 1,
 vP 14 (vc .add 13 1),
 vM 9 14])
 (.seq (.seq (.region [vP 10 (.mv (vi 0))])
 (.block 0 (.loop k81l3)))
 (.seq (.region [vP 8 (.mv (.c (.bool false)))])
 (.ret))))
def k82l0 : Cd :=
  .seq (.seq (.draw [vD (vM 31 11) 0,
 vD (vM 32 12) 0,
 vD (vP 33 (vb .leq 31 32)) 3,
 vD (vM 34 33) 7,
 vD (vT 34 35 (.mv (.s 4))) 15,
 vD (vT 34 36 (.mv (.s 0))) 15,
 vD (vT 34 37 (.mv (.s 1))) 15,
 vD (vT 34 38 (.ias 8 (.s 36) (.s 37))) 111,
 vD (vT 34 39 (.ld true 8 (.s 38))) 239,
 vD (vT 34 40 (.mv (.s 0))) 15,
 vD (vT 34 41 (.mv (.s 11))) 15,
 vD (vT 34 42 (.ias 8 (.s 40) (.s 41))) 1551,
 vD (vT 34 43 (.ld true 8 (.s 42))) 3599,
 ⟨⟨some (34, true), some 44, .inr (.val true (.s 35) [(.s 39), (.s 43)])⟩, some [], [], 8191, false⟩,
 vD (vT 34 45 (vc .lss 44 0)) 16383,
 vD (vT 34 46 (.not (.s 45))) 32767,
 vD (vP 47 (.pick (.s 34) (.s 46) (.c (.bool false)))) 65535])
 (.cond (.s 47) (.skip)
 (.exit 2)))
 (.block 3 (.region [vM 48 11,
 vP 49 (vc .add 48 1),
 vM 11 49]))
def k82l1 : Cd :=
  .seq (.seq (.draw [vD (vM 50 11) 0,
 vD (vM 51 12) 0,
 vD (vP 52 (vb .leq 50 51)) 3,
 vD (vM 53 52) 7,
 vD (vT 53 54 (.mv (.s 4))) 15,
 vD (vT 53 55 (.mv (.s 0))) 15,
 vD (vT 53 56 (.mv (.s 1))) 15,
 vD (vT 53 57 (.ias 8 (.s 55) (.s 56))) 111,
 vD (vT 53 58 (.ld true 8 (.s 57))) 239,
 vD (vT 53 59 (.mv (.s 0))) 15,
 vD (vT 53 60 (.mv (.s 12))) 15,
 vD (vT 53 61 (.ias 8 (.s 59) (.s 60))) 1551,
 vD (vT 53 62 (.ld true 8 (.s 61))) 3599,
 ⟨⟨some (53, true), some 63, .inr (.val true (.s 54) [(.s 58), (.s 62)])⟩, some [], [], 8191, false⟩,
 vD (vT 53 64 (vc .lss 63 0)) 16383,
 vD (vP 65 (.pick (.s 53) (.s 64) (.c (.bool false)))) 32767])
 (.cond (.s 65) (.skip)
 (.exit 4)))
 (.block 5 (.region [vM 66 12,
 vP 67 (vc .sub 66 1),
 vM 12 67]))
def k82l2 : Cd :=
  .block 1 (.seq (.block 2 (.loop k82l0))
 (.seq (.block 4 (.loop k82l1))
 (.seq (.seq (.region [vM 68 11,
 vM 69 12,
 vP 70 (vb .gtr 68 69)])
 (.cond (.s 70) (.exit 0)
 (.skip)))
 (.seq (.draw [vD (vM 71 0) 0,
 vD (vM 72 11) 0,
 vD (vM 73 0) 0,
 vD (vM 74 12) 0,
 vD (vM 75 0) 0,
 vD (vM 76 12) 0,
 vD (vI 77 8 75 76) 48,
 vD (vP 78 (.ld true 8 (.s 77))) 112,
 vD (vM 79 0) 0,
 vD (vM 80 11) 0,
 vD (vI 81 8 79 80) 768,
 vD (vP 82 (.ld true 8 (.s 81))) 1792,
 vD (vI 83 8 71 72) 4083,
 ⟨⟨none, none, .inl (.st 8 (.s 83) (.s 78))⟩, (some [.at 0]), [], 8179, false⟩,
 vD (vI 84 8 73 74) 16383,
 ⟨⟨none, none, .inl (.st 8 (.s 84) (.s 82))⟩, (some [.at 0]), [], 32767, false⟩])
 (.seq (.region [vM 85 11,
 vP 86 (vc .add 85 1),
 vM 11 86])
 (.region [vM 87 12,
 vP 88 (vc .sub 87 1),
 vM 12 88]))))))
def k82 : Cd :=
  .seq (.region [vP 10 (.mv (vi 0))])
 (.seq (.draw [vD (vM 13 0) 0,
 vD (vM 14 1) 0,
 vD (vM 15 0) 0,
 vD (vM 16 3) 0,
 vD (vM 17 0) 0,
 vD (vM 18 3) 0,
 vD (vI 19 8 17 18) 48,
 vD (vP 20 (.ld true 8 (.s 19))) 112,
 vD (vM 21 0) 0,
 vD (vM 22 1) 0,
 vD (vI 23 8 21 22) 768,
 vD (vP 24 (.ld true 8 (.s 23))) 1792,
 vD (vI 25 8 13 14) 4083,
 ⟨⟨none, none, .inl (.st 8 (.s 25) (.s 20))⟩, (some [.at 0]), [], 8179, false⟩,
 vD (vI 26 8 15 16) 16383,
 ⟨⟨none, none, .inl (.st 8 (.s 26) (.s 24))⟩, (some [.at 0]), [], 32767, false⟩])
 (.seq (.region [vM 27 1,
 vP 28 (vc .add 27 1),
 vM 29 2,
 vP 30 (vc .sub 29 1),
 vM 11 28,
 vM 12 30])
 (.seq (.block 0 (.loop k82l2))
 (.seq (.region [vM 89 11,
 vM 10 89])
 (.ret)))))
def k83l0 : Cd :=
  .seq (.seq (.draw [vD (vM 32 12) 0,
 vD (vM 33 13) 0,
 vD (vP 34 (vb .leq 32 33)) 3,
 vD (vM 35 34) 7,
 vD (vT 35 36 (.mv (.s 4))) 15,
 vD (vT 35 37 (.mv (.s 0))) 15,
 vD (vT 35 38 (.mv (.s 12))) 15,
 vD (vT 35 39 (.ias 8 (.s 37) (.s 38))) 111,
 vD (vT 35 40 (.ld true 8 (.s 39))) 239,
 vD (vT 35 41 (.mv (.s 0))) 15,
 vD (vT 35 42 (.mv (.s 1))) 15,
 vD (vT 35 43 (.ias 8 (.s 41) (.s 42))) 1551,
 vD (vT 35 44 (.ld true 8 (.s 43))) 3599,
 ⟨⟨some (35, true), some 45, .inr (.val true (.s 36) [(.s 40), (.s 44)])⟩, some [], [], 8191, false⟩,
 vD (vT 35 46 (vc .lss 45 0)) 16383,
 vD (vP 47 (.pick (.s 35) (.s 46) (.c (.bool false)))) 32767])
 (.cond (.s 47) (.skip)
 (.exit 0)))
 (.block 1 (.region [vM 48 12,
 vP 49 (vc .add 48 1),
 vM 12 49]))
def k83l1 : Cd :=
  .seq (.seq (.draw [vD (vM 50 12) 0,
 vD (vM 51 13) 0,
 vD (vP 52 (vb .leq 50 51)) 3,
 vD (vM 53 52) 7,
 vD (vT 53 54 (.mv (.s 4))) 15,
 vD (vT 53 55 (.mv (.s 0))) 15,
 vD (vT 53 56 (.mv (.s 13))) 15,
 vD (vT 53 57 (.ias 8 (.s 55) (.s 56))) 111,
 vD (vT 53 58 (.ld true 8 (.s 57))) 239,
 vD (vT 53 59 (.mv (.s 0))) 15,
 vD (vT 53 60 (.mv (.s 1))) 15,
 vD (vT 53 61 (.ias 8 (.s 59) (.s 60))) 1551,
 vD (vT 53 62 (.ld true 8 (.s 61))) 3599,
 ⟨⟨some (53, true), some 63, .inr (.val true (.s 54) [(.s 58), (.s 62)])⟩, some [], [], 8191, false⟩,
 vD (vT 53 64 (vc .lss 63 0)) 16383,
 vD (vT 53 65 (.not (.s 64))) 32767,
 vD (vP 66 (.pick (.s 53) (.s 65) (.c (.bool false)))) 65535])
 (.cond (.s 66) (.skip)
 (.exit 2)))
 (.block 3 (.region [vM 67 13,
 vP 68 (vc .sub 67 1),
 vM 13 68]))
def k83l2 : Cd :=
  .seq (.seq (.draw [vD (vM 105 12) 0,
 vD (vM 106 13) 0,
 vD (vP 107 (vb .leq 105 106)) 3,
 vD (vM 108 107) 7,
 vD (vT 108 109 (.mv (.s 4))) 15,
 vD (vT 108 110 (.mv (.s 0))) 15,
 vD (vT 108 111 (.mv (.s 12))) 15,
 vD (vT 108 112 (.ias 8 (.s 110) (.s 111))) 111,
 vD (vT 108 113 (.ld true 8 (.s 112))) 239,
 vD (vT 108 114 (.mv (.s 0))) 15,
 vD (vT 108 115 (.mv (.s 1))) 15,
 vD (vT 108 116 (.ias 8 (.s 114) (.s 115))) 1551,
 vD (vT 108 117 (.ld true 8 (.s 116))) 3599,
 ⟨⟨some (108, true), some 118, .inr (.val true (.s 109) [(.s 113), (.s 117)])⟩, some [], [], 8191, false⟩,
 vD (vT 108 119 (vc .lss 118 0)) 16383,
 vD (vP 120 (.pick (.s 108) (.s 119) (.c (.bool false)))) 32767])
 (.cond (.s 120) (.skip)
 (.exit 6)))
 (.block 7 (.region [vM 121 12,
 vP 122 (vc .add 121 1),
 vM 12 122]))
def k83l3 : Cd :=
  .seq (.seq (.draw [vD (vM 123 12) 0,
 vD (vM 124 13) 0,
 vD (vP 125 (vb .leq 123 124)) 3,
 vD (vM 126 125) 7,
 vD (vT 126 127 (.mv (.s 4))) 15,
 vD (vT 126 128 (.mv (.s 0))) 15,
 vD (vT 126 129 (.mv (.s 13))) 15,
 vD (vT 126 130 (.ias 8 (.s 128) (.s 129))) 111,
 vD (vT 126 131 (.ld true 8 (.s 130))) 239,
 vD (vT 126 132 (.mv (.s 0))) 15,
 vD (vT 126 133 (.mv (.s 1))) 15,
 vD (vT 126 134 (.ias 8 (.s 132) (.s 133))) 1551,
 vD (vT 126 135 (.ld true 8 (.s 134))) 3599,
 ⟨⟨some (126, true), some 136, .inr (.val true (.s 127) [(.s 131), (.s 135)])⟩, some [], [], 8191, false⟩,
 vD (vT 126 137 (vc .lss 136 0)) 16383,
 vD (vT 126 138 (.not (.s 137))) 32767,
 vD (vP 139 (.pick (.s 126) (.s 138) (.c (.bool false)))) 65535])
 (.cond (.s 139) (.skip)
 (.exit 8)))
 (.block 9 (.region [vM 140 13,
 vP 141 (vc .sub 140 1),
 vM 13 141]))
def k83l4 : Cd :=
  .block 5 (.seq (.block 6 (.loop k83l2))
 (.seq (.block 8 (.loop k83l3))
 (.seq (.seq (.region [vM 142 12,
 vM 143 13,
 vP 144 (vb .gtr 142 143)])
 (.cond (.s 144) (.exit 4)
 (.skip)))
 (.seq (.draw [vD (vM 145 0) 0,
 vD (vM 146 12) 0,
 vD (vM 147 0) 0,
 vD (vM 148 13) 0,
 vD (vM 149 0) 0,
 vD (vM 150 13) 0,
 vD (vI 151 8 149 150) 48,
 vD (vP 152 (.ld true 8 (.s 151))) 112,
 vD (vM 153 0) 0,
 vD (vM 154 12) 0,
 vD (vI 155 8 153 154) 768,
 vD (vP 156 (.ld true 8 (.s 155))) 1792,
 vD (vI 157 8 145 146) 4083,
 ⟨⟨none, none, .inl (.st 8 (.s 157) (.s 152))⟩, (some [.at 0]), [], 8179, false⟩,
 vD (vI 158 8 147 148) 16383,
 ⟨⟨none, none, .inl (.st 8 (.s 158) (.s 156))⟩, (some [.at 0]), [], 32767, false⟩])
 (.seq (.region [vM 159 12,
 vP 160 (vc .add 159 1),
 vM 12 160])
 (.region [vM 161 13,
 vP 162 (vc .sub 161 1),
 vM 13 162]))))))
end Go.Proofs.Ytkbamkdgiglljaa
