/- The small code of the functions of this program, as its own reader reads them: part A. -/
import Derived.Test.YtkbamkdgiglljaaGreatEmR
namespace Go.Proofs.YtkbamkdgiglljaaGreat
open Go Go.Em
set_option maxRecDepth 100000
@[simp] abbrev vM (d x : Nat) : G := ⟨none, some d, .inl (.mv (.s x))⟩
@[simp] abbrev vL (d n x : Nat) : G := ⟨none, some d, .inl (.ld false n (.s x))⟩
@[simp] abbrev vF (d x o : Nat) : G := ⟨none, some d, .inl (.fa (.s x) o)⟩
@[simp] abbrev vI (d n x i : Nat) : G := ⟨none, some d, .inl (.ias n (.s x) (.s i))⟩
@[simp] abbrev vi (n : Int) : X := .c (.int .i64 n)
@[simp] abbrev vb (o : BinOp) (a b : Nat) : M := .bin o (.s a) (.s b)
@[simp] abbrev vc (o : BinOp) (a : Nat) (n : Int) : M := .bin o (.s a) (.c (.int .i64 n))
@[simp] abbrev vP (d : Nat) (m : M) : G := ⟨none, some d, .inl m⟩
@[simp] abbrev vT (g d : Nat) (m : M) : G := ⟨some (g, true), some d, .inl m⟩
@[simp] abbrev vU (g d : Nat) (m : M) : G := ⟨some (g, false), some d, .inl m⟩
@[simp] abbrev vN (d : Nat) (f : FuncId) (l : List X) : G := ⟨none, some d, .inr (.fn f l)⟩
@[simp] abbrev vD (g : G) (n : Nat) : DG := ⟨g, some [], [], n, false⟩
def k3 : Cd :=
  .seq (.region [vP 2 (.box 25 8 (.s 0)),
 vP 4 (.mv (.c (.bool false)))])
 (.seq (.region [vP 18 (.ld true 8 (.s 2)),
 vN 19 7 [(.s 18)],
 vM 17 19,
 vP 20 (.ex (.s 17) 0),
 vP 21 (.ex (.s 17) 1),
 vM 5 20,
 vM 6 21])
 (.seq (.region [vP 23 (.ld true 8 (.s 2)),
 vN 24 8 [(.s 23)],
 vM 22 24,
 vP 25 (.ex (.s 22) 0),
 vP 26 (.ex (.s 22) 1),
 vM 7 25,
 vM 8 26])
 (.seq (.region [vP 28 (.ld true 8 (.s 2)),
 vN 29 9 [(.s 28)],
 vM 27 29,
 vP 30 (.ex (.s 27) 0),
 vP 31 (.ex (.s 27) 1),
 vM 9 30,
 vM 10 31])
 (.seq (.region [vP 33 (.ld true 8 (.s 2)),
 vN 34 10 [(.s 33)],
 vM 32 34,
 vP 35 (.ex (.s 32) 0),
 vP 36 (.ex (.s 32) 1),
 vM 11 35,
 vM 12 36])
 (.seq (.region [vM 38 1,
 vN 39 11 [(.s 38)],
 vM 37 39,
 vP 40 (.ex (.s 37) 0),
 vP 41 (.ex (.s 37) 1),
 ⟨none, some 13, .inl (.alloc 25 [(.int .i64 0), (.int .i64 0), (.int .i64 0), (.int .i64 0), (.int .i64 0), (.int .i64 0), (.int .i64 0), (.string ⟨#[]⟩)])⟩,
 ⟨none, none, .inl (.st 8 (.s 13) (.s 40))⟩,
 vM 14 41])
 (.seq (.region [vM 43 1,
 vN 44 12 [(.s 43)],
 vM 42 44,
 vP 45 (.ex (.s 42) 0),
 vP 46 (.ex (.s 42) 1),
 ⟨none, some 15, .inl (.alloc 25 [(.int .i64 0), (.int .i64 0), (.int .i64 0), (.int .i64 0), (.int .i64 0), (.int .i64 0), (.int .i64 0), (.string ⟨#[]⟩)])⟩,
 ⟨none, none, .inl (.st 8 (.s 15) (.s 45))⟩,
 vM 16 46])
 (.seq (.draw [vD (vP 47 (.ld true 8 (.s 2))) 0,
 vD (vN 48 13 [(.s 47)]) 1,
 vD (vP 49 (.ld true 8 (.s 2))) 0,
 vD (vN 50 14 [(.s 49)]) 7,
 vD (vP 51 (vb .eql 48 50)) 15,
 vD (vM 52 51) 31,
 vD (vT 52 53 (.mv (.s 5))) 63,
 vD (vT 52 54 (.b2s (.s 53))) 127,
 vD (vT 52 55 (.mv (.s 7))) 63,
 vD (vT 52 56 (.b2s (.s 55))) 319,
 vD (vT 52 57 (vb .eql 54 56)) 1023,
 vD (vP 58 (.pick (.s 52) (.s 57) (.c (.bool false)))) 2047,
 vD (vM 59 58) 4095,
 vD (vT 59 60 (.mv (.s 6))) 8191,
 vD (vT 59 61 (.mv (.s 8))) 8191,
 vD (vT 59 62 (vb .eql 60 61)) 32767,
 vD (vP 63 (.pick (.s 59) (.s 62) (.c (.bool false)))) 65535,
 vD (vM 64 63) 131071,
 vD (vT 64 65 (.mv (.s 9))) 262143,
 vD (vT 64 66 (.b2s (.s 65))) 524287,
 vD (vT 64 67 (.mv (.s 11))) 262143,
 vD (vT 64 68 (.b2s (.s 67))) 1310719,
 vD (vT 64 69 (vb .eql 66 68)) 4194303,
 vD (vP 70 (.pick (.s 64) (.s 69) (.c (.bool false)))) 8388607,
 vD (vM 71 70) 16777215,
 vD (vT 71 72 (.mv (.s 10))) 33554431,
 vD (vT 71 73 (.mv (.s 12))) 33554431,
 vD (vT 71 74 (vb .eql 72 73)) 134217727,
 vD (vP 75 (.pick (.s 71) (.s 74) (.c (.bool false)))) 268435455,
 vD (vM 76 75) 536870911,
 vD (vT 76 77 (.ld true 8 (.s 13))) 1073741823,
 vD (vT 76 78 (.ld true 8 (.s 15))) 1073741823,
 vD (vT 76 79 (.eq false (.cells [.int, .int, .int, .int, .int, .int, .int, .str]) (.s 77) (.s 78))) 4294967295,
 vD (vP 80 (.pick (.s 76) (.s 79) (.c (.bool false)))) 8589934591,
 vD (vM 81 80) 17179869183,
 vD (vT 81 82 (.mv (.s 14))) 34359738367,
 vD (vT 81 83 (.mv (.s 16))) 34359738367,
 vD (vT 81 84 (vb .eql 82 83)) 137438953471,
 vD (vP 85 (.pick (.s 81) (.s 84) (.c (.bool false)))) 274877906943,
 vD (vM 86 85) 549755813887,
 ⟨⟨some (86, true), some 87, .inr (.fn 15 [])⟩, some [], [], 1099511627775, false⟩,
 vD (vP 88 (.pick (.s 86) (.s 87) (.c (.bool false)))) 2199023255551,
 vD (vM 4 88) 4398046511103])
 (.ret))))))))
def k4l0 : Cd :=
  .seq (.seq (.region [vM 32 10,
 vM 33 0,
 vP 34 (.len (.s 33)),
 vP 35 (vb .lss 32 34),
 vM 36 35,
 vT 36 37 (.mv (.s 10)),
 vT 36 38 (vc .lss 37 20),
 vP 39 (.pick (.s 36) (.s 38) (.c (.bool false)))])
 (.cond (.s 39) (.skip)
 (.exit 0)))
 (.seq (.block 1 (.seq (.region [vM 43 0,
 vM 44 10,
 vI 45 8 43 44,
 vP 46 (.ld true 8 (.s 45)),
 vN 47 9 [(.s 46)],
 vM 42 47,
 vP 48 (.ex (.s 42) 0),
 vP 49 (.ex (.s 42) 1),
 vM 11 48,
 vM 12 49])
 (.seq (.region [vM 50 12,
 vP 51 (vc .eql 50 0)])
 (.cond (.s 51) (.seq (.region [vM 52 7,
 vM 53 11,
 vP 54 (.app 5 1 1 (.s 52) (.s 53)),
 vM 7 54])
 (.seq (.region [vM 55 8,
 vM 56 0,
 vM 57 10,
 vI 58 8 56 57,
 vP 59 (.ld true 8 (.s 58)),
 ⟨none, some 60, .inl (.bs 25 8 1 [(.int .i64 0), (.int .i64 0), (.int .i64 0), (.int .i64 0), (.int .i64 0), (.int .i64 0), (.int .i64 0), (.string ⟨#[]⟩)] [(0, (.s 59))])⟩,
 vP 61 (.app 25 8 72 (.s 55) (.s 60)),
 vM 8 61])
 (.region [vM 62 9,
 vM 63 7,
 vP 64 (.len (.s 63)),
 vP 65 (.bs 3 1 1 [(.int .i64 0)] [(0, (.s 64))]),
 vP 66 (.app 3 1 8 (.s 62) (.s 65)),
 vM 9 66])))
 (.skip)))))
 (.region [vM 40 10,
 vP 41 (vc .add 40 1),
 vM 10 41]))
def k4l1 : Cd :=
  .seq (.seq (.region [vM 115 18,
 vM 116 9,
 vP 117 (.len (.s 116)),
 vP 118 (vb .lss 115 117),
 vM 119 118,
 vT 119 120 (.mv (.s 9)),
 vT 119 121 (.mv (.s 18)),
 vT 119 122 (.ias 1 (.s 120) (.s 121)),
 vT 119 123 (.ld false 1 (.s 122)),
 vT 119 124 (.mv (.s 13)),
 vT 119 125 (vb .leq 123 124),
 vP 126 (.pick (.s 119) (.s 125) (.c (.bool false)))])
 (.cond (.s 126) (.skip)
 (.exit 2)))
 (.block 3 (.seq (.region [vM 127 9,
 vM 128 18,
 vI 129 1 127 128,
 vL 130 1 129,
 vM 19 130])
 (.region [vM 131 18,
 vP 132 (vc .add 131 1),
 vM 18 132])))
def k4 : Cd :=
  .seq (.region [vP 6 (.mv (.c (.bool false)))])
 (.seq (.region [vM 22 1,
 vM 23 1,
 vP 24 (.len (.s 23)),
 vP 25 (.mm false (.s 24) (vi 500)),
 vP 26 (.slc 1 (.s 22) none (some (.s 25)) none),
 vM 1 26])
 (.seq (.seq (.region [vM 27 1,
 vN 28 16 [(.s 27)],
 vM 29 1,
 vN 30 17 [(.s 29)],
 vP 31 (vb .neq 28 30)])
 (.cond (.s 31) (.seq (.region [vP 6 (.mv (.c (.bool false)))])
 (.ret))
 (.skip)))
 (.seq (.region [vP 7 (.mv (.c (.slice none 0 0)))])
 (.seq (.region [vP 8 (.mv (.c (.slice none 0 0)))])
 (.seq (.region [vP 9 (.mv (.c (.slice none 0 0)))])
 (.seq (.seq (.region [vP 10 (.mv (vi 0))])
 (.block 0 (.loop k4l0)))
 (.seq (.region [vM 67 2,
 vM 68 7,
 vP 69 (.len (.s 68)),
 vP 70 (vc .add 69 1),
 vN 71 18 [(.s 67), (.s 70)],
 vM 13 71])
 (.seq (.region [vP 73 (.bs 5 1 0 [(.int .u8 0)] []),
 vM 74 7,
 vP 75 (.app 5 1 1 (.s 73) (.s 74)),
 vM 76 1,
 vP 77 (.app 5 1 1 (.s 75) (.s 76)),
 vN 78 19 [(.s 77)],
 vM 72 78,
 vP 79 (.ex (.s 72) 0),
 vP 80 (.ex (.s 72) 1),
 vM 14 79,
 vM 15 80])
 (.seq (.region [vP 82 (.bs 5 1 0 [(.int .u8 0)] []),
 vM 83 7,
 vP 84 (.app 5 1 1 (.s 82) (.s 83)),
 vM 85 1,
 vP 86 (.app 5 1 1 (.s 84) (.s 85)),
 vN 87 20 [(.s 86)],
 vM 81 87,
 vP 88 (.ex (.s 81) 0),
 vP 89 (.ex (.s 81) 1),
 vM 16 88,
 vM 17 89])
 (.seq (.seq (.region [vM 90 14,
 vM 91 16,
 vN 92 21 [(.s 90), (.s 91)],
 vP 93 (.not (.s 92)),
 vM 94 93,
 vU 94 95 (.mv (.s 15)),
 vU 94 96 (.mv (.s 17)),
 vU 94 97 (vb .neq 95 96),
 vP 98 (.pick (.s 94) (.c (.bool true)) (.s 97)),
 vM 99 98,
 vU 99 100 (.mv (.s 14)),
 vU 99 101 (.len (.s 100)),
 vU 99 102 (.mv (.s 8)),
 vU 99 103 (.len (.s 102)),
 vU 99 104 (vb .lss 101 103),
 vP 105 (.pick (.s 99) (.c (.bool true)) (.s 104)),
 vM 106 105,
 vU 106 107 (.mv (.s 14)),
 vU 106 108 (.mv (.s 8)),
 vU 106 109 (.len (.s 108)),
 vU 106 110 (.slc 8 (.s 107) none (some (.s 109)) none),
 vU 106 111 (.mv (.s 8)),
 ⟨some (106, false), some 112, .inr (.fn 21 [(.s 110), (.s 111)])⟩,
 vU 106 113 (.not (.s 112)),
 vP 114 (.pick (.s 106) (.c (.bool true)) (.s 113))])
 (.cond (.s 114) (.seq (.region [vP 6 (.mv (.c (.bool false)))])
 (.ret))
 (.skip)))
 (.seq (.region [vP 18 (.mv (vi 0))])
 (.seq (.region [vP 19 (.mv (vi 0))])
 (.seq (.block 2 (.loop k4l1))
 (.seq (.region [vM 134 7,
 vM 135 13,
 vP 136 (.slc 1 (.s 134) none (some (.s 135)) none),
 vN 137 19 [(.s 136)],
 vM 133 137,
 vP 138 (.ex (.s 133) 0),
 vP 139 (.ex (.s 133) 1),
 vM 20 138,
 vM 21 139])
 (.seq (.region [vM 140 20,
 vM 141 8,
 vM 142 18,
 vP 143 (.slc 8 (.s 141) none (some (.s 142)) none),
 vN 144 21 [(.s 140), (.s 143)],
 vM 145 144,
 vT 145 146 (.mv (.s 21)),
 vT 145 147 (.mv (.s 19)),
 vT 145 148 (vb .eql 146 147),
 vP 149 (.pick (.s 145) (.s 148) (.c (.bool false))),
 vM 150 149,
 ⟨some (150, true), some 151, .inr (.fn 15 [])⟩,
 vP 152 (.pick (.s 150) (.s 151) (.c (.bool false))),
 vM 6 152])
 (.ret))))))))))))))))
def k5 : Cd :=
  .seq (.region [vP 3 (.box 45 1 (.s 0)),
 vP 4 (.box 25 8 (.s 1)),
 vP 6 (.mv (.c (.bool false)))])
 (.seq (.region [vP 12 (.ld true 1 (.s 3)),
 vP 13 (.ld true 8 (.s 4)),
 vN 14 22 [(.s 12), (.s 13)],
 vM 11 14,
 vP 15 (.ex (.s 11) 0),
 vP 16 (.ex (.s 11) 1),
 vP 7 (.alloc 45 [(.slice none 0 0)]),
 ⟨none, none, .inl (.st 1 (.s 7) (.s 15))⟩,
 vM 8 16])
 (.seq (.region [vP 18 (.ld true 1 (.s 3)),
 vP 19 (.ld true 8 (.s 4)),
 vN 20 23 [(.s 18), (.s 19)],
 vM 17 20,
 vP 21 (.ex (.s 17) 0),
 vP 22 (.ex (.s 17) 1),
 vP 9 (.alloc 45 [(.slice none 0 0)]),
 ⟨none, none, .inl (.st 1 (.s 9) (.s 21))⟩,
 vM 10 22])
 (.seq (.seq (.draw [vD (vM 23 8) 0,
 vD (vM 24 10) 0,
 vD (vP 25 (vb .neq 23 24)) 3,
 vD (vM 26 25) 7,
 vD (vU 26 27 (.ld true 1 (.s 7))) 15,
 vD (vU 26 28 (.ld true 1 (.s 9))) 15,
 ⟨⟨some (26, false), some 29, .inr (.fn 24 [(.s 27), (.s 28)])⟩, some [], [], 63, false⟩,
 vD (vU 26 30 (.not (.s 29))) 127,
 vD (vP 31 (.pick (.s 26) (.c (.bool true)) (.s 30))) 255,
 vD (vM 32 31) 511,
 vD (vU 32 33 (.ld true 1 (.s 3))) 1023,
 ⟨⟨some (32, false), some 34, .inr (.fn 25 [(.s 33)])⟩, some [], [], 2047, false⟩,
 vD (vU 32 35 (.ld true 1 (.s 3))) 1023,
 ⟨⟨some (32, false), some 36, .inr (.fn 26 [(.s 35)])⟩, some [], [], 8191, false⟩,
 vD (vU 32 37 (vb .neq 34 36)) 16383,
 vD (vP 38 (.pick (.s 32) (.c (.bool true)) (.s 37))) 32767,
 vD (vM 39 38) 65535,
 vD (vU 39 40 (.ld true 1 (.s 3))) 131071,
 vD (vU 39 41 (.mv (.s 2))) 131071,
 ⟨⟨some (39, false), some 42, .inr (.fn 27 [(.s 40), (.s 41)])⟩, some [], [], 524287, false⟩,
 vD (vU 39 43 (.ld true 1 (.s 3))) 131071,
 vD (vU 39 44 (.mv (.s 2))) 131071,
 ⟨⟨some (39, false), some 45, .inr (.fn 28 [(.s 43), (.s 44)])⟩, some [], [], 4194303, false⟩,
 vD (vU 39 46 (vb .neq 42 45)) 8388607,
 vD (vP 47 (.pick (.s 39) (.c (.bool true)) (.s 46))) 16777215])
 (.cond (.s 47) (.seq (.region [vP 6 (.mv (.c (.bool false)))])
 (.ret))
 (.skip)))
 (.seq (.draw [vD (vP 48 (.ld true 1 (.s 3))) 0,
 vD (vN 49 30 [(.s 48)]) 1,
 vD (vP 50 (.ld true 1 (.s 3))) 0,
 vD (vN 51 31 [(.s 50)]) 7,
 vD (vN 52 29 [(.s 49), (.s 51)]) 15,
 vD (vM 53 52) 31,
 ⟨⟨some (53, true), some 54, .inr (.fn 15 [])⟩, some [], [], 63, false⟩,
 vD (vP 55 (.pick (.s 53) (.s 54) (.c (.bool false)))) 127,
 vD (vM 6 55) 255])
 (.ret)))))
def k6 : Cd :=
  .seq (.region [vP 2 (.box 45 1 (.s 0)),
 vP 3 (.box 45 1 (.s 1)),
 vP 4 (.mv (.c (.bool false)))])
 (.seq (.region [vP 12 (.ld true 1 (.s 2)),
 vP 13 (.ld true 1 (.s 3)),
 vN 14 32 [(.s 12), (.s 13)],
 vM 11 14,
 vP 15 (.ex (.s 11) 0),
 vP 16 (.ex (.s 11) 1),
 vP 5 (.alloc 45 [(.slice none 0 0)]),
 ⟨none, none, .inl (.st 1 (.s 5) (.s 15))⟩,
 vM 6 16])
 (.seq (.region [vP 18 (.ld true 1 (.s 2)),
 vP 19 (.ld true 1 (.s 3)),
 vN 20 33 [(.s 18), (.s 19)],
 vM 17 20,
 vP 21 (.ex (.s 17) 0),
 vP 22 (.ex (.s 17) 1),
 vP 7 (.alloc 45 [(.slice none 0 0)]),
 ⟨none, none, .inl (.st 1 (.s 7) (.s 21))⟩,
 vM 8 22])
 (.seq (.region [vP 24 (.ld true 1 (.s 3)),
 vP 25 (.ld true 1 (.s 2)),
 vN 26 32 [(.s 24), (.s 25)],
 vM 23 26,
 vP 27 (.ex (.s 23) 0),
 vP 28 (.ex (.s 23) 1),
 vP 9 (.alloc 45 [(.slice none 0 0)]),
 ⟨none, none, .inl (.st 1 (.s 9) (.s 27))⟩,
 vM 10 28])
 (.seq (.region [vM 29 6,
 vM 30 8,
 vP 31 (vb .eql 29 30),
 vM 32 31,
 vT 32 33 (.mv (.s 6)),
 vT 32 34 (.mv (.s 10)),
 vT 32 35 (vb .eql 33 34),
 vP 36 (.pick (.s 32) (.s 35) (.c (.bool false))),
 vM 37 36,
 vT 37 38 (.ld true 1 (.s 5)),
 vT 37 39 (.ld true 1 (.s 7)),
 ⟨some (37, true), some 40, .inr (.fn 24 [(.s 38), (.s 39)])⟩,
 vP 41 (.pick (.s 37) (.s 40) (.c (.bool false))),
 vM 42 41,
 vT 42 43 (.ld true 1 (.s 5)),
 vT 42 44 (.ld true 1 (.s 9)),
 ⟨some (42, true), some 45, .inr (.fn 24 [(.s 43), (.s 44)])⟩,
 vP 46 (.pick (.s 42) (.s 45) (.c (.bool false))),
 vM 47 46,
 ⟨some (47, true), some 48, .inr (.fn 15 [])⟩,
 vP 49 (.pick (.s 47) (.s 48) (.c (.bool false))),
 vM 4 49])
 (.ret)))))
def k7 : Cd :=
  .seq (.region [vP 1 (.box 25 8 (.s 0)),
 vP 2 (.mv (.c (.slice none 0 0))),
 vP 3 (.mv (vi 0))])
 (.seq (.seq (.region [vP 6 (.ld true 8 (.s 1)),
 vN 7 13 [(.s 6)],
 vM 4 7])
 (.seq (.region [vM 8 4,
 vP 9 (vc .neq 8 0)])
 (.cond (.s 9) (.seq (.region [vM 10 4,
 vP 2 (.mv (.c (.slice none 0 0))),
 vM 3 10])
 (.ret))
 (.skip))))
 (.seq (.region [vF 11 1 7,
 vL 12 1 11,
 vP 13 (.lens (.s 12)),
 vP 14 (.bin .add (vi 20) (.s 13)),
 vP 15 (.mks 5 1 1 [(.int .u8 0)] (.s 14) (.s 14)),
 vM 5 15])
 (.seq (.draw [vD (vM 16 5) 0,
 vD (vP 17 (.slc 1 (.s 16) (some (vi 0)) none none)) 1,
 vD (vF 18 1 0) 0,
 vD (vP 19 (.ld true 2 (.s 18))) 4,
 ⟨vN 20 34 [(.s 17), (.s 19)], none, [], 15, false⟩])
 (.seq (.region [vM 21 5,
 vF 22 1 2,
 vL 23 1 22,
 vP 24 (.cvi .u8 (.s 23)),
 vP 25 (.ias 1 (.s 21) (vi 5)),
 ⟨none, none, .inl (.st 1 (.s 25) (.s 24))⟩])
 (.seq (.draw [vD (vM 26 5) 0,
 vD (vP 27 (.slc 1 (.s 26) (some (vi 6)) none none)) 1,
 vD (vF 28 1 3) 0,
 vD (vL 29 1 28) 4,
 vD (vP 30 (.cvi .u32 (.s 29))) 12,
 ⟨vN 31 35 [(.s 27), (.s 30)], none, [], 31, false⟩])
 (.seq (.region [vM 32 5,
 vF 33 1 4,
 vL 34 1 33,
 vP 35 (.cvi .u8 (.s 34)),
 vP 36 (.ias 1 (.s 32) (vi 10)),
 ⟨none, none, .inl (.st 1 (.s 36) (.s 35))⟩])
 (.seq (.draw [vD (vM 37 5) 0,
 vD (vP 38 (.slc 1 (.s 37) (some (vi 11)) none none)) 1,
 vD (vF 39 1 5) 0,
 vD (vP 40 (.ld true 2 (.s 39))) 4,
 ⟨vN 41 34 [(.s 38), (.s 40)], none, [], 15, false⟩])
 (.seq (.draw [vD (vM 42 5) 0,
 vD (vP 43 (.slc 1 (.s 42) (some (vi 16)) none none)) 1,
 vD (vF 44 1 7) 0,
 vD (vL 45 1 44) 4,
 vD (vP 46 (.lens (.s 45))) 12,
 vD (vP 47 (.cvi .u32 (.s 46))) 28,
 ⟨vN 48 35 [(.s 43), (.s 47)], none, [], 63, false⟩])
 (.seq (.draw [vD (vM 49 5) 0,
 vD (vP 50 (.slc 1 (.s 49) (some (vi 20)) none none)) 1,
 vD (vF 51 1 7) 0,
 vD (vL 52 1 51) 4,
 ⟨vP 53 (.cpy 1 (.s 50) (.s 52)), (some [.at 5]), [], 15, false⟩])
 (.seq (.region [vM 54 5,
 vM 2 54,
 vP 3 (.mv (vi 0))])
 (.ret)))))))))))
def k8 : Cd :=
  .seq (.region [vP 1 (.box 25 8 (.s 0)),
 vP 2 (.mv (.c (.slice none 0 0))),
 vP 3 (.mv (vi 0))])
 (.seq (.seq (.region [vP 5 (.ld true 8 (.s 1)),
 vN 6 14 [(.s 5)],
 vP 7 (vc .neq 6 0)])
 (.cond (.s 7) (.seq (.region [vP 2 (.mv (.c (.slice none 0 0))),
 vP 3 (.mv (vi 80))])
 (.ret))
 (.skip)))
 (.seq (.region [vF 8 1 0,
 vF 9 8 0,
 vL 10 1 9,
 vP 11 (.cvi .u8 (.s 10)),
 vP 12 (.bs 5 1 1 [(.int .u8 0)] [(0, (.s 11))]),
 vM 4 12])
 (.seq (.region [vM 13 4,
 vF 14 1 0,
 vF 15 14 1,
 vL 16 1 15,
 vN 17 36 [(.s 16)],
 vP 18 (.app 5 1 1 (.s 13) (.s 17)),
 vM 4 18])
 (.seq (.region [vM 19 4,
 vF 20 1 2,
 vL 21 1 20,
 vP 22 (.cvi .u8 (.s 21)),
 vP 23 (.bs 5 1 1 [(.int .u8 0)] [(0, (.s 22))]),
 vP 24 (.app 5 1 1 (.s 19) (.s 23)),
 vM 4 24])
 (.seq (.region [vM 25 4,
 vF 26 1 3,
 vL 27 1 26,
 vN 28 36 [(.s 27)],
 vP 29 (.app 5 1 1 (.s 25) (.s 28)),
 vM 4 29])
 (.seq (.region [vM 30 4,
 vF 31 1 4,
 vL 32 1 31,
 vP 33 (.cvi .u8 (.s 32)),
 vF 34 1 5,
 vF 35 34 0,
 vL 36 1 35,
 vP 37 (.cvi .u8 (.s 36)),
 vP 38 (.bs 5 1 2 [(.int .u8 0)] [(0, (.s 33)), (1, (.s 37))]),
 vP 39 (.app 5 1 1 (.s 30) (.s 38)),
 vM 4 39])
 (.seq (.region [vM 40 4,
 vF 41 1 5,
 vF 42 41 1,
 vL 43 1 42,
 vN 44 36 [(.s 43)],
 vP 45 (.app 5 1 1 (.s 40) (.s 44)),
 vM 4 45])
 (.seq (.region [vM 46 4,
 vF 47 1 7,
 vL 48 1 47,
 vP 49 (.lens (.s 48)),
 vN 50 36 [(.s 49)],
 vP 51 (.app 5 1 1 (.s 46) (.s 50)),
 vM 4 51])
 (.seq (.region [vM 52 4,
 vF 53 1 7,
 vL 54 1 53,
 vP 55 (.s2b 5 (.s 54)),
 vP 56 (.app 5 1 1 (.s 52) (.s 55)),
 vM 2 56,
 vP 3 (.mv (vi 0))])
 (.ret))))))))))
def k9 : Cd :=
  .seq (.region [vP 1 (.box 25 8 (.s 0)),
 vP 2 (.mv (.c (.slice none 0 0))),
 vP 3 (.mv (vi 0))])
 (.seq (.region [vP 7 (.ld true 8 (.s 1)),
 vN 8 7 [(.s 7)],
 vM 6 8,
 vP 9 (.ex (.s 6) 0),
 vP 10 (.ex (.s 6) 1),
 vM 4 9,
 vM 5 10])
 (.seq (.seq (.region [vM 11 5,
 vP 12 (vc .neq 11 0)])
 (.cond (.s 12) (.seq (.region [vM 13 5,
 vP 2 (.mv (.c (.slice none 0 0))),
 vM 3 13])
 (.ret))
 (.skip)))
 (.seq (.region [vM 14 4,
 vN 15 37 [(.s 14)],
 vM 2 15,
 vP 3 (.mv (vi 0))])
 (.ret))))
def k10 : Cd :=
  .seq (.region [vP 1 (.box 25 8 (.s 0)),
 vP 2 (.mv (.c (.slice none 0 0))),
 vP 3 (.mv (vi 0))])
 (.seq (.region [vP 7 (.ld true 8 (.s 1)),
 vN 8 8 [(.s 7)],
 vM 6 8,
 vP 9 (.ex (.s 6) 0),
 vP 10 (.ex (.s 6) 1),
 vM 4 9,
 vM 5 10])
 (.seq (.seq (.region [vM 11 5,
 vP 12 (vc .neq 11 0)])
 (.cond (.s 12) (.seq (.region [vM 13 5,
 vP 2 (.mv (.c (.slice none 0 0))),
 vM 3 13])
 (.ret))
 (.skip)))
 (.seq (.region [vM 14 4,
 vN 15 38 [(.s 14)],
 vM 2 15,
 vP 3 (.mv (vi 0))])
 (.ret))))
def k11 : Cd :=
  .seq (.region [⟨none, some 2, .inl (.alloc 25 [(.int .i64 0), (.int .i64 0), (.int .i64 0), (.int .i64 0), (.int .i64 0), (.int .i64 0), (.int .i64 0), (.string ⟨#[]⟩)])⟩,
 vP 3 (.mv (vi 0))])
 (.seq (.seq (.region [vM 6 0,
 vP 7 (.len (.s 6)),
 vN 8 39 [(.s 7), (vi 20), (vi 8020)],
 vP 9 (.not (.s 8)),
 vM 10 9,
 vU 10 11 (.mv (.s 0)),
 vU 10 12 (.slc 1 (.s 11) (some (vi 16)) none none),
 ⟨some (10, false), some 13, .inr (.fn 40 [(.s 12)])⟩,
 vU 10 14 (.cvi .i64 (.s 13)),
 vU 10 15 (.mv (.s 0)),
 vU 10 16 (.len (.s 15)),
 vU 10 17 (vc .sub 16 20),
 vU 10 18 (vb .neq 14 17),
 vP 19 (.pick (.s 10) (.c (.bool true)) (.s 18))])
 (.cond (.s 19) (.seq (.region [⟨none, some 20, .inl (.bld [(.int .i64 0), (.int .i64 0), (.int .i64 0), (.int .i64 0), (.int .i64 0), (.int .i64 0), (.int .i64 0), (.string ⟨#[]⟩)] [])⟩,
 ⟨none, none, .inl (.st 8 (.s 2) (.s 20))⟩,
 vP 3 (.mv (vi 80))])
 (.ret))
 (.skip)))
 (.seq (.draw [vD (vM 21 0) 0,
 ⟨vP 22 (.slc 1 (.s 21) (some (vi 0)) none none), some [], [.fr 4], 1, false⟩,
 ⟨vN 23 41 [(.s 22)], some [], [.fr 4], 3, false⟩,
 vD (vM 24 0) 0,
 vD (vP 25 (.ias 1 (.s 24) (vi 5))) 8,
 ⟨vL 26 1 25, some [], [.fr 4], 24, false⟩,
 vD (vP 27 (.cvi .i64 (.s 26))) 56,
 vD (vM 28 0) 0,
 ⟨vP 29 (.slc 1 (.s 28) (some (vi 6)) none none), some [], [.fr 4], 128, false⟩,
 ⟨vN 30 40 [(.s 29)], some [], [.fr 4], 391, false⟩,
 vD (vP 31 (.cvi .i64 (.s 30))) 903,
 vD (vM 32 0) 0,
 vD (vP 33 (.ias 1 (.s 32) (vi 10))) 2048,
 ⟨vL 34 1 33, some [], [.fr 4], 6144, false⟩,
 vD (vP 35 (.cvi .i64 (.s 34))) 14336,
 vD (vM 36 0) 0,
 ⟨vP 37 (.slc 1 (.s 36) (some (vi 11)) none none), some [], [.fr 4], 32768, false⟩,
 ⟨vN 38 41 [(.s 37)], some [], [.fr 4], 99207, false⟩,
 vD (vM 39 0) 0,
 ⟨vP 40 (.slc 1 (.s 39) (some (vi 20)) none none), some [], [.fr 4], 262144, false⟩,
 ⟨vP 41 (.b2s (.s 40)), some [], [.fr 4], 786432, false⟩,
 ⟨⟨none, some 42, .inl (.bld [(.int .i64 0), (.int .i64 0), (.int .i64 0), (.int .i64 0), (.int .i64 0), (.int .i64 0), (.int .i64 0), (.string ⟨#[]⟩)] [(0, 2, (.s 23)), (2, 1, (.s 27)), (3, 1, (.s 31)), (4, 1, (.s 35)), (5, 2, (.s 38)), (7, 1, (.s 41))])⟩, some [], [], 2097151, false⟩,
 ⟨⟨none, some 4, .inl (.alloc 25 [(.int .i64 0), (.int .i64 0), (.int .i64 0), (.int .i64 0), (.int .i64 0), (.int .i64 0), (.int .i64 0), (.string ⟨#[]⟩)])⟩, (some [.fr 4]), [], 0, false⟩,
 ⟨⟨none, none, .inl (.st 8 (.s 4) (.s 42))⟩, (some [.fr 4]), [], 8388607, false⟩])
 (.seq (.seq (.region [vP 43 (.ld true 8 (.s 4)),
 vN 44 13 [(.s 43)],
 vM 5 44])
 (.seq (.region [vM 45 5,
 vP 46 (vc .neq 45 0)])
 (.cond (.s 46) (.seq (.region [⟨none, some 47, .inl (.bld [(.int .i64 0), (.int .i64 0), (.int .i64 0), (.int .i64 0), (.int .i64 0), (.int .i64 0), (.int .i64 0), (.string ⟨#[]⟩)] [])⟩,
 vM 48 5,
 ⟨none, none, .inl (.st 8 (.s 2) (.s 47))⟩,
 vM 3 48])
 (.ret))
 (.skip))))
 (.seq (.region [vP 49 (.ld true 8 (.s 4)),
 ⟨none, none, .inl (.st 8 (.s 2) (.s 49))⟩,
 vP 3 (.mv (vi 0))])
 (.ret)))))
def k12 : Cd :=
  .seq (.region [⟨none, some 2, .inl (.alloc 25 [(.int .i64 0), (.int .i64 0), (.int .i64 0), (.int .i64 0), (.int .i64 0), (.int .i64 0), (.int .i64 0), (.string ⟨#[]⟩)])⟩,
 vP 3 (.mv (vi 0))])
 (.seq (.seq (.region [vM 5 0,
 vP 6 (.len (.s 5)),
 vP 7 (vc .lss 6 20),
 vM 8 7,
 vU 8 9 (.mv (.s 0)),
 vU 8 10 (.slc 1 (.s 9) (some (vi 16)) (some (vi 20)) none),
 ⟨some (8, false), some 11, .inr (.fn 42 [(.s 10)])⟩,
 vU 8 12 (.mv (.s 0)),
 vU 8 13 (.len (.s 12)),
 vU 8 14 (vc .sub 13 20),
 vU 8 15 (vb .neq 11 14),
 vP 16 (.pick (.s 8) (.c (.bool true)) (.s 15))])
 (.cond (.s 16) (.seq (.region [⟨none, some 17, .inl (.bld [(.int .i64 0), (.int .i64 0), (.int .i64 0), (.int .i64 0), (.int .i64 0), (.int .i64 0), (.int .i64 0), (.string ⟨#[]⟩)] [])⟩,
 ⟨none, none, .inl (.st 8 (.s 2) (.s 17))⟩,
 vP 3 (.mv (vi 80))])
 (.ret))
 (.skip)))
 (.seq (.draw [vD (vM 18 0) 0,
 vD (vP 19 (.ias 1 (.s 18) (vi 0))) 1,
 ⟨vL 20 1 19, some [], [.fr 4], 3, false⟩,
 vD (vP 21 (.cvi .i64 (.s 20))) 7,
 vD (vM 22 0) 0,
 ⟨vP 23 (.slc 1 (.s 22) (some (vi 1)) (some (vi 5)) none), some [], [.fr 4], 16, false⟩,
 ⟨vN 24 42 [(.s 23)], some [], [.fr 4], 48, false⟩,
 vD (vP 25 (.bld [(.int .i64 0), (.int .i64 0)] [(0, 1, (.s 21)), (1, 1, (.s 24))])) 127,
 vD (vM 26 0) 0,
 vD (vP 27 (.ias 1 (.s 26) (vi 5))) 256,
 ⟨vL 28 1 27, some [], [.fr 4], 768, false⟩,
 vD (vP 29 (.cvi .i64 (.s 28))) 1792,
 vD (vM 30 0) 0,
 ⟨vP 31 (.slc 1 (.s 30) (some (vi 6)) (some (vi 10)) none), some [], [.fr 4], 4096, false⟩,
 ⟨vN 32 42 [(.s 31)], some [], [.fr 4], 12400, false⟩,
 vD (vM 33 0) 0,
 vD (vP 34 (.ias 1 (.s 33) (vi 10))) 32768,
 ⟨vL 35 1 34, some [], [.fr 4], 98304, false⟩,
 vD (vP 36 (.cvi .i64 (.s 35))) 229376,
 vD (vM 37 0) 0,
 vD (vP 38 (.ias 1 (.s 37) (vi 11))) 524288,
 ⟨vL 39 1 38, some [], [.fr 4], 1572864, false⟩,
 vD (vP 40 (.cvi .i64 (.s 39))) 3670016,
 vD (vM 41 0) 0,
 ⟨vP 42 (.slc 1 (.s 41) (some (vi 12)) (some (vi 16)) none), some [], [.fr 4], 8388608, false⟩,
 ⟨vN 43 42 [(.s 42)], some [], [.fr 4], 25194608, false⟩,
 vD (vP 44 (.bld [(.int .i64 0), (.int .i64 0)] [(0, 1, (.s 40)), (1, 1, (.s 43))])) 66613360,
 vD (vM 45 0) 0,
 ⟨vP 46 (.slc 1 (.s 45) (some (vi 20)) none none), some [], [.fr 4], 134217728, false⟩,
 ⟨vP 47 (.b2s (.s 46)), some [], [.fr 4], 402653184, false⟩,
 ⟨⟨none, some 48, .inl (.bld [(.int .i64 0), (.int .i64 0), (.int .i64 0), (.int .i64 0), (.int .i64 0), (.int .i64 0), (.int .i64 0), (.string ⟨#[]⟩)] [(0, 2, (.s 25)), (2, 1, (.s 29)), (3, 1, (.s 32)), (4, 1, (.s 36)), (5, 2, (.s 44)), (7, 1, (.s 47))])⟩, some [], [], 1073741823, false⟩,
 ⟨⟨none, some 4, .inl (.alloc 25 [(.int .i64 0), (.int .i64 0), (.int .i64 0), (.int .i64 0), (.int .i64 0), (.int .i64 0), (.int .i64 0), (.string ⟨#[]⟩)])⟩, (some [.fr 4]), [], 0, false⟩,
 ⟨⟨none, none, .inl (.st 8 (.s 4) (.s 48))⟩, (some [.fr 4]), [], 4294967295, false⟩])
 (.seq (.draw [vD (vP 49 (.ld true 8 (.s 4))) 0,
 vD (vP 50 (.ld true 8 (.s 4))) 0,
 vD (vN 51 14 [(.s 50)]) 2,
 vD (vN 52 43 [(.s 49), (.s 51)]) 7,
 vD (vP 53 (.ex (.s 52) 0)) 15,
 vD (vP 54 (.ex (.s 52) 1)) 15,
 ⟨⟨none, none, .inl (.st 8 (.s 2) (.s 53))⟩, (some [.at 2]), [], 63, false⟩,
 vD (vM 3 54) 127])
 (.ret))))
def k13 : Cd :=
  .seq (.region [vP 1 (.box 25 8 (.s 0)),
 vP 2 (.mv (vi 0))])
 (.seq (.seq (.region [vF 3 1 0,
 vP 4 (.ld true 2 (.s 3)),
 vN 5 44 [(.s 4)],
 vP 6 (.not (.s 5)),
 vM 7 6,
 vU 7 8 (.ld true 8 (.s 1)),
 ⟨some (7, false), some 9, .inr (.fn 45 [(.s 8)])⟩,
 vU 7 10 (.not (.s 9)),
 vP 11 (.pick (.s 7) (.c (.bool true)) (.s 10)),
 vM 12 11,
 vU 12 13 (.fa (.s 1) 3),
 vU 12 14 (.ld false 1 (.s 13)),
 ⟨some (12, false), some 15, .inr (.fn 39 [(.s 14), (vi 0), (vi 100000)])⟩,
 vU 12 16 (.not (.s 15)),
 vP 17 (.pick (.s 12) (.c (.bool true)) (.s 16)),
 vM 18 17,
 vU 18 19 (.fa (.s 1) 4),
 vU 18 20 (.ld false 1 (.s 19)),
 ⟨some (18, false), some 21, .inr (.fn 39 [(.s 20), (vi 0), (vi 99)])⟩,
 vU 18 22 (.not (.s 21)),
 vP 23 (.pick (.s 18) (.c (.bool true)) (.s 22))])
 (.cond (.s 23) (.seq (.region [vP 2 (.mv (vi 80))])
 (.ret))
 (.skip)))
 (.seq (.region [vP 2 (.mv (vi 0))])
 (.ret)))
def k14 : Cd :=
  .seq (.region [vP 1 (.box 25 8 (.s 0)),
 vP 2 (.mv (vi 0))])
 (.seq (.seq (.region [vF 3 1 0,
 vP 4 (.ld true 2 (.s 3)),
 vN 5 46 [(.s 4)],
 vP 6 (.not (.s 5)),
 vM 7 6,
 vU 7 8 (.fa (.s 1) 2),
 vU 7 9 (.ld false 1 (.s 8)),
 ⟨some (7, false), some 10, .inr (.fn 47 [(.s 9), (vi 1), (vi 9)])⟩,
 vU 7 11 (.not (.s 10)),
 vP 12 (.pick (.s 7) (.c (.bool true)) (.s 11)),
 vM 13 12,
 vU 13 14 (.fa (.s 1) 3),
 vU 13 15 (.ld false 1 (.s 14)),
 ⟨some (13, false), some 16, .inr (.fn 47 [(.s 15), (vi 0), (vi 100000)])⟩,
 vU 13 17 (.not (.s 16)),
 vP 18 (.pick (.s 13) (.c (.bool true)) (.s 17)),
 vM 19 18,
 vU 19 20 (.fa (.s 1) 4),
 vU 19 21 (.ld false 1 (.s 20)),
 ⟨some (19, false), some 22, .inr (.fn 47 [(.s 21), (vi 0), (vi 99)])⟩,
 vU 19 23 (.not (.s 22)),
 vP 24 (.pick (.s 19) (.c (.bool true)) (.s 23)),
 vM 25 24,
 vU 25 26 (.fa (.s 1) 7),
 vU 25 27 (.ld false 1 (.s 26)),
 vU 25 28 (.lens (.s 27)),
 vU 25 29 (vc .gtr 28 8000),
 vP 30 (.pick (.s 25) (.c (.bool true)) (.s 29))])
 (.cond (.s 30) (.seq (.region [vP 2 (.mv (vi 80))])
 (.ret))
 (.skip)))
 (.seq (.seq (.region [vF 31 1 2,
 vL 32 1 31,
 vN 33 48 [(.s 32)],
 vM 34 33,
 vT 34 35 (.fa (.s 1) 5),
 vT 34 36 (.ld true 2 (.s 35)),
 vT 34 37 (.bld [(.int .i64 0), (.int .i64 0)] []),
 vT 34 38 (.eq true (.cells [.int, .int]) (.s 36) (.s 37)),
 vP 39 (.pick (.s 34) (.s 38) (.c (.bool false))),
 vM 40 39,
 vU 40 41 (.fa (.s 1) 2),
 vU 40 42 (.ld false 1 (.s 41)),
 ⟨some (40, false), some 43, .inr (.fn 48 [(.s 42)])⟩,
 vU 40 44 (.not (.s 43)),
 vU 40 45 (.mv (.s 44)),
 vT 45 46 (.fa (.s 1) 5),
 vT 45 47 (.ld true 2 (.s 46)),
 ⟨some (45, true), some 48, .inr (.fn 46 [(.s 47)])⟩,
 vT 45 49 (.not (.s 48)),
 vU 40 50 (.pick (.s 45) (.s 49) (.c (.bool false))),
 vP 51 (.pick (.s 40) (.c (.bool true)) (.s 50)),
 vM 52 51,
 vU 52 53 (.fa (.s 1) 2),
 vU 52 54 (.ld false 1 (.s 53)),
 vU 52 55 (vc .gtr 54 6),
 vU 52 56 (.mv (.s 55)),
 vT 56 57 (.fa (.s 1) 7),
 vT 56 58 (.ld false 1 (.s 57)),
 ⟨some (56, true), some 59, .inl (.bin .neq (.s 58) (.c (.string ⟨#[]⟩)))⟩,
 vU 52 60 (.pick (.s 56) (.s 59) (.c (.bool false))),
 vP 61 (.pick (.s 52) (.c (.bool true)) (.s 60))])
 (.cond (.s 61) (.seq (.region [vP 2 (.mv (vi 80))])
 (.ret))
 (.skip)))
 (.seq (.region [vP 2 (.mv (vi 0))])
 (.ret))))
def k15 : Cd :=
  .seq (.region [vP 0 (.mv (.c (.bool false)))])
 (.seq (.region [vN 13 49 [],
 vP 14 (.bld [(.slice none 0 0)] [(0, 1, (.s 13))]),
 vP 1 (.alloc 45 [(.slice none 0 0)]),
 ⟨none, none, .inl (.st 1 (.s 1) (.s 14))⟩])
 (.seq (.region [vP 16 (.ld true 1 (.s 1)),
 vP 17 (.bld [(.int .i64 0), (.int .i64 0)] []),
 vN 18 50 [(.s 16), (.s 17), (vi 9)],
 vM 15 18,
 vP 19 (.ex (.s 15) 0),
 vP 20 (.ex (.s 15) 1),
 vP 2 (.alloc 23 [(.int .i64 0), (.int .i64 0)]),
 ⟨none, none, .inl (.st 2 (.s 2) (.s 19))⟩,
 vM 3 20])
 (.seq (.region [vP 22 (.ld true 1 (.s 1)),
 vP 23 (.bld [(.int .i64 0), (.int .i64 0)] []),
 vN 24 50 [(.s 22), (.s 23), (vi 10)],
 vM 21 24,
 vP 25 (.ex (.s 21) 0),
 vP 26 (.ex (.s 21) 1),
 vP 4 (.alloc 23 [(.int .i64 0), (.int .i64 0)]),
 ⟨none, none, .inl (.st 2 (.s 4) (.s 25))⟩,
 vM 5 26])
 (.seq (.region [vP 28 (.ld true 1 (.s 1)),
 vP 29 (.bld [(.int .i64 0), (.int .i64 0)] []),
 vN 30 50 [(.s 28), (.s 29), (vi 8)],
 vM 27 30,
 vP 31 (.ex (.s 27) 0),
 vP 32 (.ex (.s 27) 1),
 vP 6 (.alloc 23 [(.int .i64 0), (.int .i64 0)]),
 ⟨none, none, .inl (.st 2 (.s 6) (.s 31))⟩,
 vM 7 32])
 (.seq (.region [vN 34 51 [],
 vM 33 34,
 vP 35 (.ex (.s 33) 0),
 vP 36 (.ex (.s 33) 1),
 vP 8 (.alloc 74 [(.slice none 0 0), (.slice none 0 0), (.slice none 0 0), (.slice none 0 0)]),
 vP 9 (.alloc 76 [(.slice none 0 0), (.int .i64 0), (.int .i64 0)]),
 ⟨none, none, .inl (.st 4 (.s 8) (.s 35))⟩,
 ⟨none, none, .inl (.st 3 (.s 9) (.s 36))⟩])
 (.seq (.draw [⟨vP 38 (.ld true 4 (.s 8)), some [], [.fr 10, .fr 11], 0, false⟩,
 ⟨vP 39 (.ld true 3 (.s 9)), some [], [.fr 10, .fr 11], 0, false⟩,
 vD (vF 40 1 0) 0,
 ⟨vL 41 1 40, some [], [.fr 10, .fr 11], 4, false⟩,
 vD (vP 42 (.ias 8 (.s 41) (vi 0))) 12,
 ⟨vP 43 (.ld true 8 (.s 42)), some [], [.fr 10, .fr 11], 28, false⟩,
 ⟨vN 44 52 [(.s 38), (.s 39), (.s 43)], some [], [.fr 10, .fr 11], 63, false⟩,
 vD (vM 37 44) 127,
 vD (vP 45 (.ex (.s 37) 0)) 255,
 vD (vP 46 (.ex (.s 37) 1)) 255,
 vD (vP 47 (.ex (.s 37) 2)) 255,
 ⟨vP 10 (.alloc 74 [(.slice none 0 0), (.slice none 0 0), (.slice none 0 0), (.slice none 0 0)]), (some [.fr 10]), [.fr 11], 0, false⟩,
 ⟨vP 11 (.alloc 76 [(.slice none 0 0), (.int .i64 0), (.int .i64 0)]), (some [.fr 11]), [.fr 10], 0, false⟩,
 ⟨⟨none, none, .inl (.st 4 (.s 10) (.s 45))⟩, (some [.fr 10]), [], 6655, false⟩,
 ⟨⟨none, none, .inl (.st 3 (.s 11) (.s 46))⟩, (some [.fr 11]), [], 15359, false⟩,
 vD (vM 12 47) 32767])
 (.seq (.region [vP 48 (.ld true 2 (.s 2)),
 vP 49 (.bld [(.int .i64 0), (.int .i64 0)] [(1, 1, (vi 1))]),
 vP 50 (.eq false (.cells [.int, .int]) (.s 48) (.s 49)),
 vM 51 50,
 vT 51 52 (.mv (.s 3)),
 vT 51 53 (vc .eql 52 0),
 vP 54 (.pick (.s 51) (.s 53) (.c (.bool false))),
 vM 55 54,
 vT 55 56 (.ld true 2 (.s 4)),
 vT 55 57 (.bld [(.int .i64 0), (.int .i64 0)] []),
 vT 55 58 (.eq false (.cells [.int, .int]) (.s 56) (.s 57)),
 vP 59 (.pick (.s 55) (.s 58) (.c (.bool false))),
 vM 60 59,
 vT 60 61 (.mv (.s 5)),
 vT 60 62 (vc .eql 61 0),
 vP 63 (.pick (.s 60) (.s 62) (.c (.bool false))),
 vM 64 63,
 vT 64 65 (.mv (.s 7)),
 vT 64 66 (vc .eql 65 4),
 vP 67 (.pick (.s 64) (.s 66) (.c (.bool false))),
 vM 68 67,
 vT 68 69 (.ld true 1 (.s 1)),
 ⟨some (68, true), some 70, .inr (.fn 54 [(.s 69), (vi 8)])⟩,
 vT 68 71 (.bst 3 1 1 [(.int .i64 0)] [(0, (vi 2))]),
 ⟨some (68, true), some 72, .inr (.fn 53 [(.s 70), (.s 71)])⟩,
 vP 73 (.pick (.s 68) (.s 72) (.c (.bool false))),
 vM 74 73,
 vT 74 75 (.bs 5 1 9 [(.int .u8 0)] [(0, (.c (.int .u8 49))), (1, (.c (.int .u8 50))), (2, (.c (.int .u8 51))), (3, (.c (.int .u8 52))), (4, (.c (.int .u8 53))), (5, (.c (.int .u8 54))), (6, (.c (.int .u8 55))), (7, (.c (.int .u8 56))), (8, (.c (.int .u8 57)))]),
 vT 74 76 (.cbs (.s 75)),
 ⟨some (74, true), some 77, .inr (.fn 16 [(.s 76)])⟩,
 vT 74 78 (.bin .eql (.s 77) (.c (.int .u32 3421780262))),
 vP 79 (.pick (.s 74) (.s 78) (.c (.bool false))),
 vM 80 79,
 vT 80 81 (.mv (.s 12)),
 vT 80 82 (vc .eql 81 0),
 vP 83 (.pick (.s 80) (.s 82) (.c (.bool false))),
 vM 84 83,
 vT 84 85 (.fa (.s 11) 0),
 vT 84 86 (.fa (.s 85) 0),
 vT 84 87 (.ld false 1 (.s 86)),
 vT 84 88 (.len (.s 87)),
 vT 84 89 (vc .eql 88 1),
 vP 90 (.pick (.s 84) (.s 89) (.c (.bool false))),
 vM 91 90,
 vT 91 92 (.fa (.s 11) 2),
 vT 91 93 (.ld false 1 (.s 92)),
 vT 91 94 (vc .eql 93 1),
 vP 95 (.pick (.s 91) (.s 94) (.c (.bool false))),
 vM 0 95])
 (.ret))))))))
def k16l0 : Cd :=
  .seq (.region [vP 17 (vc .lss 16 8)])
 (.seq (.cond (.s 17) (.skip)
 (.exit 2))
 (.seq (.block 3 (.region [vM 18 3,
 vP 19 (.bin .shr (.s 18) (.c (.int .u64 1))),
 vM 20 3,
 vP 21 (.bin .and (.s 20) (.c (.int .u32 1))),
 vP 22 (.bin .mul (.c (.int .u32 3988292384)) (.s 21)),
 vP 23 (vb .xor 19 22),
 vM 3 23]))
 (.region [vP 24 (vc .add 16 1),
 vM 16 24])))
def k16l1 : Cd :=
  .seq (.region [vP 9 (vb .lss 8 7)])
 (.seq (.cond (.s 9) (.skip)
 (.exit 0))
 (.seq (.block 1 (.seq (.region [vI 10 1 6 8,
 vL 11 1 10,
 vM 5 11])
 (.seq (.region [vM 12 3,
 vM 13 5,
 vP 14 (.cvi .u32 (.s 13)),
 vP 15 (vb .xor 12 14),
 vM 3 15])
 (.seq (.region [vP 16 (.mv (vi 0))])
 (.block 2 (.loop k16l0))))))
 (.region [vP 25 (vc .add 8 1),
 vM 8 25])))
def k16 : Cd :=
  .seq (.region [vP 2 (.mv (.c (.int .u32 0)))])
 (.seq (.region [vP 3 (.mv (.c (.int .u32 4294967295)))])
 (.seq (.seq (.region [vM 6 0,
 vP 7 (.len (.s 6)),
 vP 8 (.mv (vi 0))])
 (.block 0 (.loop k16l1)))
 (.seq (.region [vM 26 3,
 vP 27 (.cpl (.s 26)),
 vM 2 27])
 (.ret))))
def k17l0 : Cd :=
  .seq (.seq (.region [vM 18 6,
 vP 19 (vc .lss 18 8)])
 (.cond (.s 19) (.skip)
 (.exit 2)))
 (.seq (.block 3 (.seq (.region [vM 22 3,
 vP 23 (.bin .and (.s 22) (.c (.int .u32 1))),
 vP 24 (.bin .eql (.s 23) (.c (.int .u32 1))),
 vM 7 24])
 (.seq (.region [vM 25 3,
 vP 26 (.bin .shr (.s 25) (.c (.int .u64 1))),
 vM 3 26])
 (.seq (.region [vM 27 7])
 (.cond (.s 27) (.region [vM 28 3,
 vP 29 (.bin .xor (.s 28) (.c (.int .u32 3988292384))),
 vM 3 29])
 (.skip))))))
 (.region [vM 20 6,
 vP 21 (vc .add 20 1),
 vM 6 21]))
def k17l1 : Cd :=
  .seq (.region [vP 11 (vb .lss 10 9)])
 (.seq (.cond (.s 11) (.skip)
 (.exit 0))
 (.seq (.block 1 (.seq (.region [vI 12 1 8 10,
 vL 13 1 12,
 vM 5 13])
 (.seq (.region [vM 14 3,
 vM 15 5,
 vP 16 (.cvi .u32 (.s 15)),
 vP 17 (vb .xor 14 16),
 vM 3 17])
 (.seq (.region [vP 6 (.mv (vi 0))])
 (.block 2 (.loop k17l0))))))
 (.region [vP 30 (vc .add 10 1),
 vM 10 30])))
def k17 : Cd :=
  .seq (.region [vP 2 (.mv (.c (.int .u32 0)))])
 (.seq (.region [vP 3 (.mv (.c (.int .u32 4294967295)))])
 (.seq (.seq (.region [vM 8 0,
 vP 9 (.len (.s 8)),
 vP 10 (.mv (vi 0))])
 (.block 0 (.loop k17l1)))
 (.seq (.region [vM 31 3,
 vP 32 (.bin .sub (.c (.int .u32 4294967295)) (.s 31)),
 vM 2 32])
 (.ret))))
def k18 : Cd :=
  .seq (.region [vP 4 (.mv (vi 0))])
 (.seq (.region [vM 5 0,
 vM 6 1,
 vP 7 (vb .rem 5 6),
 vM 8 1,
 vP 9 (vb .add 7 8),
 vM 10 1,
 vP 11 (vb .rem 9 10),
 vM 4 11])
 (.ret))
def k19l0 : Cd :=
  .block 1 (.seq (.region [vM 9 0,
 vM 10 5,
 vP 11 (.slc 1 (.s 9) (some (.s 10)) none none),
 vN 12 55 [(.s 11)],
 vM 8 12,
 vP 13 (.ex (.s 8) 0),
 vP 14 (.ex (.s 8) 1),
 ⟨none, some 6, .inl (.alloc 25 [(.int .i64 0), (.int .i64 0), (.int .i64 0), (.int .i64 0), (.int .i64 0), (.int .i64 0), (.int .i64 0), (.string ⟨#[]⟩)])⟩,
 ⟨none, none, .inl (.st 8 (.s 6) (.s 13))⟩,
 vM 7 14])
 (.seq (.seq (.region [vM 15 7,
 vP 16 (vc .eql 15 0)])
 (.cond (.s 16) (.seq (.region [vM 17 4,
 vM 18 5,
 vM 2 17,
 vM 3 18])
 (.ret))
 (.skip)))
 (.seq (.region [vM 19 4,
 vP 20 (.ld true 8 (.s 6)),
 ⟨none, some 21, .inl (.bs 25 8 1 [(.int .i64 0), (.int .i64 0), (.int .i64 0), (.int .i64 0), (.int .i64 0), (.int .i64 0), (.int .i64 0), (.string ⟨#[]⟩)] [(0, (.s 20))])⟩,
 vP 22 (.app 25 8 72 (.s 19) (.s 21)),
 vM 4 22])
 (.region [vM 23 5,
 vM 24 7,
 vP 25 (vb .add 23 24),
 vM 5 25]))))
def k19 : Cd :=
  .seq (.region [vP 2 (.mv (.c (.slice none 0 0))),
 vP 3 (.mv (vi 0))])
 (.seq (.region [vP 4 (.mv (.c (.slice none 0 0)))])
 (.seq (.region [vP 5 (.mv (vi 0))])
 (.block 0 (.loop k19l0))))
def k20l0 : Cd :=
  .block 1 (.seq (.region [vM 9 0,
 vM 10 5,
 vP 11 (.slc 1 (.s 9) (some (.s 10)) none none),
 vN 12 56 [(.s 11)],
 vM 8 12,
 vP 13 (.ex (.s 8) 0),
 vP 14 (.ex (.s 8) 1),
 ⟨none, some 6, .inl (.alloc 25 [(.int .i64 0), (.int .i64 0), (.int .i64 0), (.int .i64 0), (.int .i64 0), (.int .i64 0), (.int .i64 0), (.string ⟨#[]⟩)])⟩,
 ⟨none, none, .inl (.st 8 (.s 6) (.s 13))⟩,
 vM 7 14])
 (.seq (.seq (.region [vM 15 7,
 vP 16 (vc .eql 15 0)])
 (.cond (.s 16) (.seq (.region [vM 17 4,
 vM 18 5,
 vM 2 17,
 vM 3 18])
 (.ret))
 (.skip)))
 (.seq (.region [vM 19 4,
 vP 20 (.ld true 8 (.s 6)),
 ⟨none, some 21, .inl (.bs 25 8 1 [(.int .i64 0), (.int .i64 0), (.int .i64 0), (.int .i64 0), (.int .i64 0), (.int .i64 0), (.int .i64 0), (.string ⟨#[]⟩)] [(0, (.s 20))])⟩,
 vP 22 (.app 25 8 72 (.s 19) (.s 21)),
 vM 4 22])
 (.region [vM 23 5,
 vM 24 7,
 vP 25 (vb .add 23 24),
 vM 5 25]))))
def k20 : Cd :=
  .seq (.region [vP 2 (.mv (.c (.slice none 0 0))),
 vP 3 (.mv (vi 0))])
 (.seq (.region [vP 4 (.mv (.c (.slice none 0 0)))])
 (.seq (.region [vP 5 (.mv (vi 0))])
 (.block 0 (.loop k20l0))))
def k21l0 : Cd :=
  .seq (.region [vP 14 (vb .lss 13 12)])
 (.seq (.cond (.s 14) (.skip)
 (.exit 0))
 (.seq (.block 1 (.seq (.region [vM 15 13,
 vM 5 15])
 (.seq (.draw [vD (vM 16 0) 0,
 vD (vM 17 5) 0,
 vD (vI 18 8 16 17) 3,
 vD (vP 19 (.ld true 8 (.s 18))) 7,
 vD (vM 20 1) 0,
 vD (vM 21 5) 0,
 vD (vI 22 8 20 21) 48,
 vD (vP 23 (.ld true 8 (.s 22))) 112,
 vD (vP 24 (.eq true (.cells [.int, .int, .int, .int, .int, .int, .int, .str]) (.s 19) (.s 23))) 255])
 (.cond (.s 24) (.seq (.region [vP 4 (.mv (.c (.bool false)))])
 (.ret))
 (.skip)))))
 (.region [vP 25 (vc .add 13 1),
 vM 13 25])))
def k21 : Cd :=
  .seq (.region [vP 4 (.mv (.c (.bool false)))])
 (.seq (.seq (.region [vM 6 0,
 vP 7 (.len (.s 6)),
 vM 8 1,
 vP 9 (.len (.s 8)),
 vP 10 (vb .neq 7 9)])
 (.cond (.s 10) (.seq (.region [vP 4 (.mv (.c (.bool false)))])
 (.ret))
 (.skip)))
 (.seq (.seq (.region [vM 11 0,
 vP 12 (.len (.s 11)),
 vP 13 (.mv (vi 0))])
 (.block 0 (.loop k21l0)))
 (.seq (.region [vP 4 (.mv (.c (.bool true)))])
 (.ret))))
def k22 : Cd :=
  .seq (.region [vP 2 (.box 45 1 (.s 0)),
 vP 3 (.box 25 8 (.s 1)),
 vP 4 (.alloc 45 [(.slice none 0 0)]),
 vP 5 (.mv (vi 0))])
 (.seq (.seq (.region [vP 8 (.ld true 1 (.s 2)),
 vN 9 25 [(.s 8)],
 vM 6 9])
 (.seq (.region [vM 10 6,
 vP 11 (vc .neq 10 0)])
 (.cond (.s 11) (.seq (.region [vP 12 (.bld [(.slice none 0 0)] []),
 vM 13 6,
 ⟨none, none, .inl (.st 1 (.s 4) (.s 12))⟩,
 vM 5 13])
 (.ret))
 (.skip))))
 (.seq (.seq (.region [vP 14 (.ld true 8 (.s 3)),
 vN 15 13 [(.s 14)],
 vM 7 15])
 (.seq (.region [vM 16 7,
 vP 17 (vc .neq 16 0)])
 (.cond (.s 17) (.seq (.region [vP 18 (.bld [(.slice none 0 0)] []),
 vM 19 7,
 ⟨none, none, .inl (.st 1 (.s 4) (.s 18))⟩,
 vM 5 19])
 (.ret))
 (.skip))))
 (.seq (.region [vP 20 (.ld true 1 (.s 2)),
 vP 21 (.ld true 8 (.s 3)),
 ⟨none, some 22, .inl (.bst 25 8 1 [(.int .i64 0), (.int .i64 0), (.int .i64 0), (.int .i64 0), (.int .i64 0), (.int .i64 0), (.int .i64 0), (.string ⟨#[]⟩)] [(0, (.s 21))])⟩,
 vP 23 (.bld [(.slice none 0 0)] [(0, 1, (.s 22))]),
 vN 24 32 [(.s 20), (.s 23)],
 vP 25 (.ex (.s 24) 0),
 vP 26 (.ex (.s 24) 1),
 ⟨none, none, .inl (.st 1 (.s 4) (.s 25))⟩,
 vM 5 26])
 (.ret))))
def k23 : Cd :=
  .seq (.region [vP 2 (.box 45 1 (.s 0)),
 vP 3 (.box 25 8 (.s 1)),
 vP 4 (.alloc 45 [(.slice none 0 0)]),
 vP 5 (.mv (vi 0))])
 (.seq (.seq (.region [vP 7 (.ld true 1 (.s 2)),
 vN 8 26 [(.s 7)],
 vP 9 (vc .neq 8 0)])
 (.cond (.s 9) (.seq (.region [vP 10 (.bld [(.slice none 0 0)] []),
 ⟨none, none, .inl (.st 1 (.s 4) (.s 10))⟩,
 vP 5 (.mv (vi 81))])
 (.ret))
 (.skip)))
 (.seq (.seq (.region [vP 11 (.ld true 8 (.s 3)),
 vN 12 14 [(.s 11)],
 vP 13 (vc .neq 12 0)])
 (.cond (.s 13) (.seq (.region [vP 14 (.bld [(.slice none 0 0)] []),
 ⟨none, none, .inl (.st 1 (.s 4) (.s 14))⟩,
 vP 5 (.mv (vi 80))])
 (.ret))
 (.skip)))
 (.seq (.region [vP 15 (.ld true 1 (.s 2)),
 vF 16 3 0,
 vP 17 (.ld true 2 (.s 16)),
 vN 18 57 [(.s 15), (.s 17)],
 vM 6 18])
 (.seq (.seq (.draw [vD (vM 19 6) 0,
 vD (vP 20 (vc .geq 19 0)) 1,
 vD (vM 21 20) 3,
 vD (vT 21 22 (.fa (.s 2) 0)) 7,
 vD (vT 21 23 (.ld false 1 (.s 22))) 15,
 vD (vT 21 24 (.mv (.s 6))) 7,
 vD (vT 21 25 (.ias 8 (.s 23) (.s 24))) 63,
 vD (vT 21 26 (.ld true 8 (.s 25))) 127,
 vD (vT 21 27 (.ld true 8 (.s 3))) 7,
 vD (vT 21 28 (.eq true (.cells [.int, .int, .int, .int, .int, .int, .int, .str]) (.s 26) (.s 27))) 511,
 vD (vP 29 (.pick (.s 21) (.s 28) (.c (.bool false)))) 1023])
 (.cond (.s 29) (.seq (.region [vP 30 (.bld [(.slice none 0 0)] []),
 ⟨none, none, .inl (.st 1 (.s 4) (.s 30))⟩,
 vP 5 (.mv (vi 82))])
 (.ret))
 (.skip)))
 (.seq (.seq (.region [vM 31 6,
 vP 32 (vc .geq 31 0)])
 (.cond (.s 32) (.seq (.region [vP 33 (.ld true 1 (.s 2)),
 vN 34 58 [(.s 33)],
 ⟨none, none, .inl (.st 1 (.s 4) (.s 34))⟩,
 vP 5 (.mv (vi 0))])
 (.ret))
 (.skip)))
 (.seq (.seq (.region [vF 35 2 0,
 vL 36 1 35,
 vP 37 (.len (.s 36)),
 vP 38 (vc .eql 37 200)])
 (.cond (.s 38) (.seq (.region [vP 39 (.bld [(.slice none 0 0)] []),
 ⟨none, none, .inl (.st 1 (.s 4) (.s 39))⟩,
 vP 5 (.mv (vi 2))])
 (.ret))
 (.skip)))
 (.seq (.region [vP 40 (.ld true 1 (.s 2)),
 vP 41 (.ld true 8 (.s 3)),
 vN 42 59 [(.s 40), (.s 41)],
 ⟨none, none, .inl (.st 1 (.s 4) (.s 42))⟩,
 vP 5 (.mv (vi 0))])
 (.ret))))))))
def k24 : Cd :=
  .seq (.region [vP 2 (.box 45 1 (.s 0)),
 vP 3 (.box 45 1 (.s 1)),
 vP 4 (.mv (.c (.bool false)))])
 (.seq (.region [vF 5 2 0,
 vL 6 1 5,
 vF 7 3 0,
 vL 8 1 7,
 vN 9 21 [(.s 6), (.s 8)],
 vM 4 9])
 (.ret))
def k25l0 : Cd :=
  .seq (.region [vP 13 (vb .lss 12 11)])
 (.seq (.cond (.s 13) (.skip)
 (.exit 0))
 (.seq (.block 1 (.seq (.region [vM 14 12,
 vI 15 8 10 12,
 vP 16 (.ld true 8 (.s 15)),
 ⟨none, some 4, .inl (.alloc 25 [(.int .i64 0), (.int .i64 0), (.int .i64 0), (.int .i64 0), (.int .i64 0), (.int .i64 0), (.int .i64 0), (.string ⟨#[]⟩)])⟩,
 vM 3 14,
 ⟨none, none, .inl (.st 8 (.s 4) (.s 16))⟩])
 (.seq (.draw [vD (vP 17 (.ld true 8 (.s 4))) 0,
 vD (vN 18 13 [(.s 17)]) 1,
 vD (vP 19 (vc .neq 18 0)) 3,
 vD (vM 20 19) 7,
 vD (vU 20 21 (.mv (.s 3))) 15,
 vD (vU 20 22 (vc .gtr 21 0)) 31,
 vD (vU 20 23 (.mv (.s 22))) 63,
 vD (vT 23 24 (.fa (.s 1) 0)) 127,
 vD (vT 23 25 (.ld false 1 (.s 24))) 255,
 vD (vT 23 26 (.mv (.s 3))) 127,
 vD (vT 23 27 (vc .sub 26 1)) 639,
 vD (vT 23 28 (.ias 8 (.s 25) (.s 27))) 2047,
 vD (vT 23 29 (.fa (.s 28) 0)) 4095,
 vD (vT 23 30 (.ld true 2 (.s 29))) 8191,
 vD (vT 23 31 (.fa (.s 4) 0)) 127,
 vD (vT 23 32 (.ld true 2 (.s 31))) 16511,
 ⟨⟨some (23, true), some 33, .inr (.fn 60 [(.s 30), (.s 32)])⟩, some [], [], 65535, false⟩,
 vD (vT 23 34 (vc .geq 33 0)) 131071,
 vD (vU 20 35 (.pick (.s 23) (.s 34) (.c (.bool false)))) 262143,
 vD (vP 36 (.pick (.s 20) (.c (.bool true)) (.s 35))) 524287])
 (.cond (.s 36) (.seq (.region [vP 2 (.mv (vi 81))])
 (.ret))
 (.skip)))))
 (.region [vP 37 (vc .add 12 1),
 vM 12 37])))
def k25 : Cd :=
  .seq (.region [vP 1 (.box 45 1 (.s 0)),
 vP 2 (.mv (vi 0))])
 (.seq (.seq (.region [vF 5 1 0,
 vL 6 1 5,
 vP 7 (.len (.s 6)),
 vP 8 (vc .gtr 7 200)])
 (.cond (.s 8) (.seq (.region [vP 2 (.mv (vi 81))])
 (.ret))
 (.skip)))
 (.seq (.seq (.region [vF 9 1 0,
 vL 10 1 9,
 vP 11 (.len (.s 10)),
 vP 12 (.mv (vi 0))])
 (.block 0 (.loop k25l0)))
 (.seq (.region [vP 2 (.mv (vi 0))])
 (.ret))))
def k26l0 : Cd :=
  .seq (.region [vP 13 (vb .lss 12 11)])
 (.seq (.cond (.s 13) (.skip)
 (.exit 0))
 (.seq (.block 1 (.seq (.region [vM 14 12,
 vI 15 8 10 12,
 vP 16 (.ld true 8 (.s 15)),
 ⟨none, some 4, .inl (.alloc 25 [(.int .i64 0), (.int .i64 0), (.int .i64 0), (.int .i64 0), (.int .i64 0), (.int .i64 0), (.int .i64 0), (.string ⟨#[]⟩)])⟩,
 vM 3 14,
 ⟨none, none, .inl (.st 8 (.s 4) (.s 16))⟩])
 (.seq (.draw [vD (vP 17 (.ld true 8 (.s 4))) 0,
 vD (vN 18 14 [(.s 17)]) 1,
 vD (vP 19 (vc .neq 18 0)) 3,
 vD (vM 20 19) 7,
 vD (vU 20 21 (.mv (.s 3))) 15,
 vD (vU 20 22 (vc .gtr 21 0)) 31,
 vD (vU 20 23 (.mv (.s 22))) 63,
 vD (vT 23 24 (.fa (.s 1) 0)) 127,
 vD (vT 23 25 (.ld false 1 (.s 24))) 255,
 vD (vT 23 26 (.mv (.s 3))) 127,
 vD (vT 23 27 (vc .sub 26 1)) 639,
 vD (vT 23 28 (.ias 8 (.s 25) (.s 27))) 2047,
 vD (vT 23 29 (.fa (.s 28) 0)) 4095,
 vD (vT 23 30 (.ld true 2 (.s 29))) 8191,
 vD (vT 23 31 (.fa (.s 4) 0)) 127,
 vD (vT 23 32 (.ld true 2 (.s 31))) 16511,
 ⟨⟨some (23, true), some 33, .inr (.fn 61 [(.s 30), (.s 32)])⟩, some [], [], 65535, false⟩,
 vD (vT 23 34 (.not (.s 33))) 131071,
 vD (vU 20 35 (.pick (.s 23) (.s 34) (.c (.bool false)))) 262143,
 vD (vP 36 (.pick (.s 20) (.c (.bool true)) (.s 35))) 524287])
 (.cond (.s 36) (.seq (.region [vP 2 (.mv (vi 81))])
 (.ret))
 (.skip)))))
 (.region [vP 37 (vc .add 12 1),
 vM 12 37])))
def k26 : Cd :=
  .seq (.region [vP 1 (.box 45 1 (.s 0)),
 vP 2 (.mv (vi 0))])
 (.seq (.seq (.region [vF 5 1 0,
 vL 6 1 5,
 vP 7 (.len (.s 6)),
 vP 8 (vc .gtr 7 200)])
 (.cond (.s 8) (.seq (.region [vP 2 (.mv (vi 81))])
 (.ret))
 (.skip)))
 (.seq (.seq (.region [vF 9 1 0,
 vL 10 1 9,
 vP 11 (.len (.s 10)),
 vP 12 (.mv (vi 0))])
 (.block 0 (.loop k26l0)))
 (.seq (.region [vP 2 (.mv (vi 0))])
 (.ret))))
def k27l0 : Cd :=
  .seq (.region [vP 20 (vb .lss 19 18)])
 (.seq (.cond (.s 20) (.skip)
 (.exit 0))
 (.seq (.block 1 (.seq (.region [vI 21 8 17 19,
 vP 22 (.ld true 8 (.s 21)),
 ⟨none, some 7, .inl (.alloc 25 [(.int .i64 0), (.int .i64 0), (.int .i64 0), (.int .i64 0), (.int .i64 0), (.int .i64 0), (.int .i64 0), (.string ⟨#[]⟩)])⟩,
 ⟨none, none, .inl (.st 8 (.s 7) (.s 22))⟩])
 (.seq (.region [vF 23 7 0,
 vF 24 23 0,
 vL 25 1 24,
 vM 26 1,
 vP 27 (vb .eql 25 26)])
 (.cond (.s 27) (.region [vF 28 7 0,
 vF 29 28 1,
 vL 30 1 29,
 vP 31 (vc .add 30 1),
 vM 5 31])
 (.skip)))))
 (.region [vP 32 (vc .add 19 1),
 vM 19 32])))
def k27 : Cd :=
  .seq (.region [vP 2 (.box 45 1 (.s 0)),
 vP 4 (.mv (vi 0))])
 (.seq (.seq (.region [vP 8 (.ld true 1 (.s 2)),
 vN 9 25 [(.s 8)],
 vP 10 (vc .neq 9 0),
 vM 11 10,
 vU 11 12 (.mv (.s 1)),
 ⟨some (11, false), some 13, .inr (.fn 62 [(.s 12)])⟩,
 vU 11 14 (.not (.s 13)),
 vP 15 (.pick (.s 11) (.c (.bool true)) (.s 14))])
 (.cond (.s 15) (.seq (.region [vP 4 (.mv (.c (.int .i64 (-1))))])
 (.ret))
 (.skip)))
 (.seq (.region [vP 5 (.mv (vi 0))])
 (.seq (.seq (.region [vF 16 2 0,
 vL 17 1 16,
 vP 18 (.len (.s 17)),
 vP 19 (.mv (vi 0))])
 (.block 0 (.loop k27l0)))
 (.seq (.region [vM 33 5,
 vM 4 33])
 (.ret)))))
def k28l0 : Cd :=
  .seq (.region [vP 20 (vb .lss 19 18)])
 (.seq (.cond (.s 20) (.skip)
 (.exit 0))
 (.seq (.block 1 (.seq (.region [vI 21 8 17 19,
 vP 22 (.ld true 8 (.s 21)),
 ⟨none, some 7, .inl (.alloc 25 [(.int .i64 0), (.int .i64 0), (.int .i64 0), (.int .i64 0), (.int .i64 0), (.int .i64 0), (.int .i64 0), (.string ⟨#[]⟩)])⟩,
 ⟨none, none, .inl (.st 8 (.s 7) (.s 22))⟩])
 (.seq (.region [vF 23 7 0,
 vF 24 23 0,
 vL 25 1 24,
 vM 26 1,
 vP 27 (vb .eql 25 26)])
 (.cond (.s 27) (.region [vM 28 5,
 vF 29 7 0,
 vF 30 29 1,
 vL 31 1 30,
 vP 32 (vc .add 31 1),
 vP 33 (.mm true (.s 28) (.s 32)),
 vM 5 33])
 (.skip)))))
 (.region [vP 34 (vc .add 19 1),
 vM 19 34])))
def k28 : Cd :=
  .seq (.region [vP 2 (.box 45 1 (.s 0)),
 vP 4 (.mv (vi 0))])
 (.seq (.seq (.region [vP 8 (.ld true 1 (.s 2)),
 vN 9 26 [(.s 8)],
 vP 10 (vc .neq 9 0),
 vM 11 10,
 vU 11 12 (.mv (.s 1)),
 ⟨some (11, false), some 13, .inr (.fn 47 [(.s 12), (vi 0), (vi 7)])⟩,
 vU 11 14 (.not (.s 13)),
 vP 15 (.pick (.s 11) (.c (.bool true)) (.s 14))])
 (.cond (.s 15) (.seq (.region [vP 4 (.mv (.c (.int .i64 (-1))))])
 (.ret))
 (.skip)))
 (.seq (.region [vP 5 (.mv (vi 0))])
 (.seq (.seq (.region [vF 16 2 0,
 vL 17 1 16,
 vP 18 (.len (.s 17)),
 vP 19 (.mv (vi 0))])
 (.block 0 (.loop k28l0)))
 (.seq (.region [vM 35 5,
 vM 4 35])
 (.ret)))))
def k29l0 : Cd :=
  .seq (.region [vP 14 (vb .lss 13 12)])
 (.seq (.cond (.s 14) (.skip)
 (.exit 0))
 (.seq (.block 1 (.seq (.region [vM 15 13,
 vM 5 15])
 (.seq (.draw [vD (vM 16 0) 0,
 vD (vM 17 5) 0,
 vD (vI 18 2 16 17) 3,
 vD (vP 19 (.ld true 2 (.s 18))) 7,
 vD (vM 20 1) 0,
 vD (vM 21 5) 0,
 vD (vI 22 2 20 21) 48,
 vD (vP 23 (.ld true 2 (.s 22))) 112,
 vD (vP 24 (.eq true (.cells [.int, .int]) (.s 19) (.s 23))) 255])
 (.cond (.s 24) (.seq (.region [vP 4 (.mv (.c (.bool false)))])
 (.ret))
 (.skip)))))
 (.region [vP 25 (vc .add 13 1),
 vM 13 25])))
def k29 : Cd :=
  .seq (.region [vP 4 (.mv (.c (.bool false)))])
 (.seq (.seq (.region [vM 6 0,
 vP 7 (.len (.s 6)),
 vM 8 1,
 vP 9 (.len (.s 8)),
 vP 10 (vb .neq 7 9)])
 (.cond (.s 10) (.seq (.region [vP 4 (.mv (.c (.bool false)))])
 (.ret))
 (.skip)))
 (.seq (.seq (.region [vM 11 0,
 vP 12 (.len (.s 11)),
 vP 13 (.mv (vi 0))])
 (.block 0 (.loop k29l0)))
 (.seq (.region [vP 4 (.mv (.c (.bool true)))])
 (.ret))))
def k30l0 : Cd :=
  .seq (.seq (.region [vP 27 (.ld true 2 (.s 4)),
 vF 28 6 0,
 vP 29 (.ld true 2 (.s 28)),
 vP 30 (.eq true (.cells [.int, .int]) (.s 27) (.s 29))])
 (.cond (.s 30) (.skip)
 (.exit 2)))
 (.seq (.block 3 (.region [vM 35 3,
 vP 36 (.ld true 2 (.s 4)),
 vP 37 (.bs 23 2 1 [(.int .i64 0), (.int .i64 0)] [(0, (.s 36))]),
 vP 38 (.app 23 2 16 (.s 35) (.s 37)),
 vM 3 38]))
 (.region [vF 31 4 1,
 vL 32 1 31,
 vP 33 (vc .add 32 1),
 vF 34 4 1,
 ⟨none, none, .inl (.st 1 (.s 34) (.s 33))⟩]))
def k30l1 : Cd :=
  .seq (.region [vP 14 (vb .lss 13 12)])
 (.seq (.cond (.s 14) (.skip)
 (.exit 0))
 (.seq (.block 1 (.seq (.region [vI 15 8 11 13,
 vP 16 (.ld true 8 (.s 15)),
 ⟨none, some 6, .inl (.alloc 25 [(.int .i64 0), (.int .i64 0), (.int .i64 0), (.int .i64 0), (.int .i64 0), (.int .i64 0), (.int .i64 0), (.string ⟨#[]⟩)])⟩,
 ⟨none, none, .inl (.st 8 (.s 6) (.s 16))⟩])
 (.seq (.seq (.region [vF 17 6 0,
 vF 18 17 0,
 vL 19 1 18,
 vF 20 4 0,
 vL 21 1 20,
 vP 22 (vb .neq 19 21)])
 (.cond (.s 22) (.region [vF 23 6 0,
 vF 24 23 0,
 vL 25 1 24,
 vP 26 (.bld [(.int .i64 0), (.int .i64 0)] [(0, 1, (.s 25))]),
 ⟨none, none, .inl (.st 2 (.s 4) (.s 26))⟩])
 (.skip)))
 (.seq (.block 2 (.loop k30l0))
 (.region [vF 39 4 1,
 vL 40 1 39,
 vP 41 (vc .add 40 1),
 vF 42 4 1,
 ⟨none, none, .inl (.st 1 (.s 42) (.s 41))⟩])))))
 (.region [vP 43 (vc .add 13 1),
 vM 13 43])))
def k30 : Cd :=
  .seq (.region [vP 1 (.box 45 1 (.s 0)),
 vP 2 (.mv (.c (.slice none 0 0)))])
 (.seq (.seq (.region [vP 7 (.ld true 1 (.s 1)),
 vN 8 25 [(.s 7)],
 vP 9 (vc .neq 8 0)])
 (.cond (.s 9) (.seq (.region [vP 2 (.mv (.c (.slice none 0 0)))])
 (.ret))
 (.skip)))
 (.seq (.region [vP 3 (.mv (.c (.slice none 0 0)))])
 (.seq (.region [vP 4 (.alloc 23 [(.int .i64 0), (.int .i64 0)])])
 (.seq (.seq (.region [vF 10 1 0,
 vL 11 1 10,
 vP 12 (.len (.s 11)),
 vP 13 (.mv (vi 0))])
 (.block 0 (.loop k30l1)))
 (.seq (.region [vM 44 3,
 vM 2 44])
 (.ret))))))
def k31l0 : Cd :=
  .seq (.seq (.region [vM 14 5,
 vP 15 (.ld true 1 (.s 1)),
 vM 16 4,
 vN 17 28 [(.s 15), (.s 16)],
 vP 18 (vb .lss 14 17)])
 (.cond (.s 18) (.skip)
 (.exit 2)))
 (.seq (.block 3 (.seq (.region [vM 21 4,
 vM 22 5,
 vP 23 (.bld [(.int .i64 0), (.int .i64 0)] [(0, 1, (.s 21)), (1, 1, (.s 22))]),
 vP 6 (.alloc 23 [(.int .i64 0), (.int .i64 0)]),
 ⟨none, none, .inl (.st 2 (.s 6) (.s 23))⟩])
 (.seq (.region [vP 24 (.ld true 1 (.s 1)),
 vP 25 (.ld true 2 (.s 6)),
 vN 26 57 [(.s 24), (.s 25)],
 vP 27 (vc .lss 26 0)])
 (.cond (.s 27) (.region [vM 28 3,
 vP 29 (.ld true 2 (.s 6)),
 vP 30 (.bs 23 2 1 [(.int .i64 0), (.int .i64 0)] [(0, (.s 29))]),
 vP 31 (.app 23 2 16 (.s 28) (.s 30)),
 vM 3 31])
 (.skip)))))
 (.region [vM 19 5,
 vP 20 (vc .add 19 1),
 vM 5 20]))
def k31l1 : Cd :=
  .seq (.seq (.region [vM 10 4,
 vP 11 (vc .lss 10 8)])
 (.cond (.s 11) (.skip)
 (.exit 0)))
 (.seq (.block 1 (.seq (.region [vP 5 (.mv (vi 0))])
 (.block 2 (.loop k31l0))))
 (.region [vM 12 4,
 vP 13 (vc .add 12 1),
 vM 4 13]))
def k31 : Cd :=
  .seq (.region [vP 1 (.box 45 1 (.s 0)),
 vP 2 (.mv (.c (.slice none 0 0)))])
 (.seq (.seq (.region [vP 7 (.ld true 1 (.s 1)),
 vN 8 26 [(.s 7)],
 vP 9 (vc .neq 8 0)])
 (.cond (.s 9) (.seq (.region [vP 2 (.mv (.c (.slice none 0 0)))])
 (.ret))
 (.skip)))
 (.seq (.region [vP 3 (.mv (.c (.slice none 0 0)))])
 (.seq (.seq (.region [vP 4 (.mv (vi 0))])
 (.block 0 (.loop k31l1)))
 (.seq (.region [vM 32 3,
 vM 2 32])
 (.ret)))))
def k32 : Cd :=
  .seq (.region [vP 2 (.box 45 1 (.s 0)),
 vP 3 (.box 45 1 (.s 1)),
 vP 4 (.alloc 45 [(.slice none 0 0)]),
 vP 5 (.mv (vi 0))])
 (.seq (.seq (.region [vP 8 (.ld true 1 (.s 2)),
 vN 9 25 [(.s 8)],
 vP 10 (vc .neq 9 0),
 vM 11 10,
 vU 11 12 (.ld true 1 (.s 3)),
 ⟨some (11, false), some 13, .inr (.fn 25 [(.s 12)])⟩,
 vU 11 14 (vc .neq 13 0),
 vP 15 (.pick (.s 11) (.c (.bool true)) (.s 14))])
 (.cond (.s 15) (.seq (.region [vP 16 (.bld [(.slice none 0 0)] []),
 ⟨none, none, .inl (.st 1 (.s 4) (.s 16))⟩,
 vP 5 (.mv (vi 81))])
 (.ret))
 (.skip)))
 (.seq (.region [vF 18 2 0,
 vL 19 1 18,
 vF 20 3 0,
 vL 21 1 20,
 vP 22 (.bst 35 1 2 [(.slice none 0 0)] [(0, (.s 19)), (1, (.s 21))]),
 vN 23 63 [(.s 22)],
 vM 17 23,
 vP 24 (.ex (.s 17) 0),
 vP 25 (.ex (.s 17) 1),
 vM 6 24,
 vM 7 25])
 (.seq (.seq (.region [vM 26 7,
 vP 27 (.not (.s 26))])
 (.cond (.s 27) (.seq (.region [vP 28 (.bld [(.slice none 0 0)] []),
 ⟨none, none, .inl (.st 1 (.s 4) (.s 28))⟩,
 vP 5 (.mv (vi 82))])
 (.ret))
 (.skip)))
 (.seq (.seq (.region [vM 29 6,
 vP 30 (.len (.s 29)),
 vP 31 (vc .gtr 30 200)])
 (.cond (.s 31) (.seq (.region [vP 32 (.bld [(.slice none 0 0)] []),
 ⟨none, none, .inl (.st 1 (.s 4) (.s 32))⟩,
 vP 5 (.mv (vi 2))])
 (.ret))
 (.skip)))
 (.seq (.region [vM 33 6,
 vP 34 (.bld [(.slice none 0 0)] [(0, 1, (.s 33))]),
 ⟨none, none, .inl (.st 1 (.s 4) (.s 34))⟩,
 vP 5 (.mv (vi 0))])
 (.ret))))))
def k33l0 : Cd :=
  .seq (.region [vP 25 (vb .lss 24 23)])
 (.seq (.cond (.s 25) (.skip)
 (.exit 0))
 (.seq (.block 1 (.seq (.region [vI 26 8 22 24,
 vP 27 (.ld true 8 (.s 26)),
 ⟨none, some 8, .inl (.alloc 25 [(.int .i64 0), (.int .i64 0), (.int .i64 0), (.int .i64 0), (.int .i64 0), (.int .i64 0), (.int .i64 0), (.string ⟨#[]⟩)])⟩,
 ⟨none, none, .inl (.st 8 (.s 8) (.s 27))⟩])
 (.seq (.region [vP 28 (.ld true 1 (.s 2)),
 vF 29 8 0,
 vP 30 (.ld true 2 (.s 29)),
 vN 31 57 [(.s 28), (.s 30)],
 vM 9 31])
 (.seq (.seq (.draw [vD (vM 32 9) 0,
 vD (vP 33 (vc .geq 32 0)) 1,
 vD (vM 34 33) 3,
 vD (vT 34 35 (.fa (.s 2) 0)) 7,
 vD (vT 34 36 (.ld false 1 (.s 35))) 15,
 vD (vT 34 37 (.mv (.s 9))) 7,
 vD (vT 34 38 (.ias 8 (.s 36) (.s 37))) 63,
 vD (vT 34 39 (.ld true 8 (.s 38))) 127,
 vD (vT 34 40 (.ld true 8 (.s 8))) 7,
 vD (vT 34 41 (.eq true (.cells [.int, .int, .int, .int, .int, .int, .int, .str]) (.s 39) (.s 40))) 511,
 vD (vP 42 (.pick (.s 34) (.s 41) (.c (.bool false)))) 1023])
 (.cond (.s 42) (.seq (.region [vP 43 (.bld [(.slice none 0 0)] []),
 ⟨none, none, .inl (.st 1 (.s 4) (.s 43))⟩,
 vP 5 (.mv (vi 82))])
 (.ret))
 (.skip)))
 (.seq (.region [vM 44 9,
 vP 45 (vc .lss 44 0)])
 (.cond (.s 45) (.region [vP 46 (.ld true 1 (.s 6)),
 vP 47 (.ld true 8 (.s 8)),
 vN 48 59 [(.s 46), (.s 47)],
 ⟨none, none, .inl (.st 1 (.s 6) (.s 48))⟩])
 (.skip)))))))
 (.region [vP 49 (vc .add 24 1),
 vM 24 49])))
def k33 : Cd :=
  .seq (.region [vP 2 (.box 45 1 (.s 0)),
 vP 3 (.box 45 1 (.s 1)),
 vP 4 (.alloc 45 [(.slice none 0 0)]),
 vP 5 (.mv (vi 0))])
 (.seq (.seq (.region [vP 10 (.ld true 1 (.s 2)),
 vN 11 26 [(.s 10)],
 vP 12 (vc .neq 11 0),
 vM 13 12,
 vU 13 14 (.ld true 1 (.s 3)),
 ⟨some (13, false), some 15, .inr (.fn 26 [(.s 14)])⟩,
 vU 13 16 (vc .neq 15 0),
 vP 17 (.pick (.s 13) (.c (.bool true)) (.s 16))])
 (.cond (.s 17) (.seq (.region [vP 18 (.bld [(.slice none 0 0)] []),
 ⟨none, none, .inl (.st 1 (.s 4) (.s 18))⟩,
 vP 5 (.mv (vi 81))])
 (.ret))
 (.skip)))
 (.seq (.region [vP 19 (.ld true 1 (.s 2)),
 vN 20 58 [(.s 19)],
 vP 6 (.alloc 45 [(.slice none 0 0)]),
 ⟨none, none, .inl (.st 1 (.s 6) (.s 20))⟩])
 (.seq (.seq (.region [vF 21 3 0,
 vL 22 1 21,
 vP 23 (.len (.s 22)),
 vP 24 (.mv (vi 0))])
 (.block 0 (.loop k33l0)))
 (.seq (.seq (.region [vF 50 6 0,
 vL 51 1 50,
 vP 52 (.len (.s 51)),
 vP 53 (vc .gtr 52 200)])
 (.cond (.s 53) (.seq (.region [vP 54 (.bld [(.slice none 0 0)] []),
 ⟨none, none, .inl (.st 1 (.s 4) (.s 54))⟩,
 vP 5 (.mv (vi 2))])
 (.ret))
 (.skip)))
 (.seq (.region [vP 55 (.ld true 1 (.s 6)),
 ⟨none, none, .inl (.st 1 (.s 4) (.s 55))⟩,
 vP 5 (.mv (vi 0))])
 (.ret))))))
def k34 : Cd :=
  .seq (.region [vP 3 (.box 23 2 (.s 1))])
 (.seq (.region [vM 4 0,
 vF 5 3 0,
 vL 6 1 5,
 vP 7 (.cvi .u8 (.s 6)),
 vP 8 (.ias 1 (.s 4) (vi 0)),
 ⟨none, none, .inl (.st 1 (.s 8) (.s 7))⟩])
 (.draw [vD (vM 9 0) 0,
 vD (vP 10 (.slc 1 (.s 9) (some (vi 1)) none none)) 1,
 vD (vF 11 3 1) 0,
 vD (vL 12 1 11) 4,
 vD (vP 13 (.cvi .u32 (.s 12))) 12,
 ⟨vN 14 35 [(.s 10), (.s 13)], none, [], 31, false⟩]))
def k35l0 : Cd :=
  .seq (.region [vP 6 (vc .lss 5 4)])
 (.seq (.cond (.s 6) (.skip)
 (.exit 0))
 (.seq (.block 1 (.seq (.region [vM 7 5,
 vM 4 7])
 (.region [vM 8 0,
 vM 9 4,
 vM 10 1,
 vM 11 4,
 vP 12 (.bin .mul (vi 8) (.s 11)),
 vP 13 (.bin .sub (vi 24) (.s 12)),
 vP 14 (vb .shr 10 13),
 vP 15 (.cvi .u8 (.s 14)),
 vI 16 1 8 9,
 ⟨none, none, .inl (.st 1 (.s 16) (.s 15))⟩])))
 (.region [vP 17 (vc .add 5 1),
 vM 5 17])))
def k35 : Cd :=
  .seq (.region [vP 5 (.mv (vi 0))])
 (.block 0 (.loop k35l0))
def k36 : Cd :=
  .seq (.region [vP 2 (.mv (.c (.slice none 0 0)))])
 (.seq (.region [vM 3 0,
 vP 4 (.bin .shr (.s 3) (.c (.int .u64 24))),
 vP 5 (.cvi .u8 (.s 4)),
 vM 6 0,
 vP 7 (.bin .shr (.s 6) (.c (.int .u64 16))),
 vP 8 (.cvi .u8 (.s 7)),
 vM 9 0,
 vP 10 (.bin .shr (.s 9) (.c (.int .u64 8))),
 vP 11 (.cvi .u8 (.s 10)),
 vM 12 0,
 vP 13 (.cvi .u8 (.s 12)),
 vP 14 (.bs 5 1 4 [(.int .u8 0)] [(0, (.s 5)), (1, (.s 8)), (2, (.s 11)), (3, (.s 13))]),
 vM 2 14])
 (.ret))
def k37 : Cd :=
  .seq (.region [vP 2 (.mv (.c (.slice none 0 0)))])
 (.seq (.region [vM 4 0,
 vP 5 (.len (.s 4)),
 vP 6 (.bin .add (vi 8) (.s 5)),
 vP 7 (.mks 5 1 1 [(.int .u8 0)] (.s 6) (.s 6)),
 vM 3 7])
 (.seq (.region [vM 8 3,
 vM 9 0,
 vP 10 (.len (.s 9)),
 vP 11 (.cvi .u32 (.s 10)),
 vN 12 35 [(.s 8), (.s 11)]])
 (.seq (.draw [vD (vM 13 3) 0,
 vD (vP 14 (.slc 1 (.s 13) (some (vi 4)) none none)) 1,
 vD (vM 15 0) 0,
 vD (vN 16 16 [(.s 15)]) 4,
 ⟨vN 17 35 [(.s 14), (.s 16)], none, [], 15, false⟩])
 (.seq (.region [vM 18 3,
 vP 19 (.slc 1 (.s 18) (some (vi 8)) none none),
 vM 20 0,
 vP 21 (.cpy 1 (.s 19) (.s 20))])
 (.seq (.region [vM 22 3,
 vM 2 22])
 (.ret))))))
def k38 : Cd :=
  .seq (.region [vP 2 (.mv (.c (.slice none 0 0)))])
 (.seq (.region [vM 4 0,
 vP 5 (.len (.s 4)),
 vN 6 36 [(.s 5)],
 vM 7 0,
 vN 8 17 [(.s 7)],
 vP 9 (.cvi .i64 (.s 8)),
 vN 10 36 [(.s 9)],
 vP 11 (.app 5 1 1 (.s 6) (.s 10)),
 vM 3 11])
 (.seq (.region [vM 12 3,
 vM 13 0,
 vP 14 (.app 5 1 1 (.s 12) (.s 13)),
 vM 2 14])
 (.ret)))
def k39 : Cd :=
  .seq (.region [vP 6 (.mv (.c (.bool false)))])
 (.seq (.region [vM 7 1,
 vM 8 0,
 vP 9 (vb .leq 7 8),
 vM 10 9,
 vT 10 11 (.mv (.s 0)),
 vT 10 12 (.mv (.s 2)),
 vT 10 13 (vb .leq 11 12),
 vP 14 (.pick (.s 10) (.s 13) (.c (.bool false))),
 vM 6 14])
 (.ret))
def k40l0 : Cd :=
  .seq (.region [vP 10 (vb .lss 9 8)])
 (.seq (.cond (.s 10) (.skip)
 (.exit 0))
 (.seq (.block 1 (.seq (.region [vI 11 1 7 9,
 vL 12 1 11,
 vM 5 12])
 (.region [vM 13 3,
 vP 14 (.bin .shl (.s 13) (.c (.int .u64 8))),
 vM 15 5,
 vP 16 (.cvi .u32 (.s 15)),
 vP 17 (vb .or 14 16),
 vM 3 17])))
 (.region [vP 18 (vc .add 9 1),
 vM 9 18])))
def k40 : Cd :=
  .seq (.region [vP 2 (.mv (.c (.int .u32 0)))])
 (.seq (.region [vP 3 (.mv (.c (.int .u32 0)))])
 (.seq (.seq (.region [vM 6 0,
 vP 7 (.slc 1 (.s 6) none (some (vi 4)) none),
 vP 8 (.len (.s 7)),
 vP 9 (.mv (vi 0))])
 (.block 0 (.loop k40l0)))
 (.seq (.region [vM 19 3,
 vM 2 19])
 (.ret))))
def k41 : Cd :=
  .seq (.region [vP 2 (.alloc 23 [(.int .i64 0), (.int .i64 0)])])
 (.seq (.draw [vD (vM 3 0) 0,
 vD (vP 4 (.ias 1 (.s 3) (vi 0))) 1,
 vD (vL 5 1 4) 3,
 vD (vP 6 (.cvi .i64 (.s 5))) 7,
 vD (vM 7 0) 0,
 vD (vP 8 (.slc 1 (.s 7) (some (vi 1)) none none)) 16,
 vD (vN 9 40 [(.s 8)]) 48,
 vD (vP 10 (.cvi .i64 (.s 9))) 112,
 vD (vP 11 (.bld [(.int .i64 0), (.int .i64 0)] [(0, 1, (.s 6)), (1, 1, (.s 10))])) 255,
 ⟨⟨none, none, .inl (.st 2 (.s 2) (.s 11))⟩, (some [.at 2]), [], 511, false⟩])
 (.ret))
def k42 : Cd :=
  .seq (.region [vP 2 (.mv (vi 0))])
 (.seq (.draw [vD (vM 3 0) 0,
 vD (vP 4 (.ias 1 (.s 3) (vi 0))) 1,
 vD (vL 5 1 4) 3,
 vD (vP 6 (.cvi .i64 (.s 5))) 7,
 vD (vP 7 (.bin .shl (.s 6) (.c (.int .u64 24)))) 15,
 vD (vM 8 0) 0,
 vD (vP 9 (.ias 1 (.s 8) (vi 1))) 32,
 vD (vL 10 1 9) 96,
 vD (vP 11 (.cvi .i64 (.s 10))) 224,
 vD (vP 12 (.bin .shl (.s 11) (.c (.int .u64 16)))) 480,
 vD (vP 13 (vb .or 7 12)) 1023,
 vD (vM 14 0) 0,
 vD (vP 15 (.ias 1 (.s 14) (vi 2))) 2048,
 vD (vL 16 1 15) 6144,
 vD (vP 17 (.cvi .i64 (.s 16))) 14336,
 vD (vP 18 (.bin .shl (.s 17) (.c (.int .u64 8)))) 30720,
 vD (vP 19 (vb .or 13 18)) 65535,
 vD (vM 20 0) 0,
 vD (vP 21 (.ias 1 (.s 20) (vi 3))) 131072,
 vD (vL 22 1 21) 393216,
 vD (vP 23 (.cvi .i64 (.s 22))) 917504,
 vD (vP 24 (vb .or 19 23)) 2097151,
 vD (vM 2 24) 4194303])
 (.ret))
def k43 : Cd :=
  .seq (.region [vP 2 (.box 25 8 (.s 0)),
 ⟨none, some 4, .inl (.alloc 25 [(.int .i64 0), (.int .i64 0), (.int .i64 0), (.int .i64 0), (.int .i64 0), (.int .i64 0), (.int .i64 0), (.string ⟨#[]⟩)])⟩,
 vP 5 (.mv (vi 0))])
 (.seq (.seq (.region [vM 6 1,
 vP 7 (vc .neq 6 0)])
 (.cond (.s 7) (.seq (.region [⟨none, some 8, .inl (.bld [(.int .i64 0), (.int .i64 0), (.int .i64 0), (.int .i64 0), (.int .i64 0), (.int .i64 0), (.int .i64 0), (.string ⟨#[]⟩)] [])⟩,
 vM 9 1,
 ⟨none, none, .inl (.st 8 (.s 4) (.s 8))⟩,
 vM 5 9])
 (.ret))
 (.skip)))
 (.seq (.region [vP 10 (.ld true 8 (.s 2)),
 ⟨none, none, .inl (.st 8 (.s 4) (.s 10))⟩,
 vP 5 (.mv (vi 0))])
 (.ret)))
def k44 : Cd :=
  .seq (.region [vP 1 (.box 23 2 (.s 0)),
 vP 2 (.mv (.c (.bool false)))])
 (.seq (.region [vF 3 1 0,
 vL 4 1 3,
 vN 5 62 [(.s 4)],
 vM 6 5,
 vT 6 7 (.fa (.s 1) 1),
 vT 6 8 (.ld false 1 (.s 7)),
 ⟨some (6, true), some 9, .inr (.fn 39 [(.s 8), (vi 0), (vi 9999)])⟩,
 vP 10 (.pick (.s 6) (.s 9) (.c (.bool false))),
 vM 2 10])
 (.ret))
def k45 : Cd :=
  .seq (.region [vP 1 (.box 25 8 (.s 0)),
 vP 2 (.mv (.c (.bool false)))])
 (.seq (.seq (.region [vP 4 (.ld true 8 (.s 1)),
 vN 5 64 [(.s 4)]])
 (.cond (.s 5) (.seq (.region [vF 6 1 5,
 vP 7 (.ld true 2 (.s 6)),
 vP 8 (.bld [(.int .i64 0), (.int .i64 0)] []),
 vP 9 (.eq false (.cells [.int, .int]) (.s 7) (.s 8)),
 vM 10 9,
 vT 10 11 (.fa (.s 1) 7),
 vT 10 12 (.ld false 1 (.s 11)),
 vT 10 13 (.lens (.s 12)),
 vT 10 14 (vc .leq 13 8000),
 vP 15 (.pick (.s 10) (.s 14) (.c (.bool false))),
 vM 2 15])
 (.ret))
 (.skip)))
 (.seq (.region [vP 3 (.mv (vi 0))])
 (.seq (.seq (.region [vF 16 1 2,
 vL 17 1 16,
 vP 18 (vc .eql 17 6)])
 (.cond (.s 18) (.region [vP 3 (.mv (vi 8000))])
 (.skip)))
 (.seq (.region [vF 19 1 2,
 vL 20 1 19,
 vN 21 39 [(.s 20), (vi 6), (vi 9)],
 vM 22 21,
 vT 22 23 (.fa (.s 1) 5),
 vT 22 24 (.ld true 2 (.s 23)),
 ⟨some (22, true), some 25, .inr (.fn 44 [(.s 24)])⟩,
 vP 26 (.pick (.s 22) (.s 25) (.c (.bool false))),
 vM 27 26,
 vT 27 28 (.fa (.s 1) 7),
 vT 27 29 (.ld false 1 (.s 28)),
 vT 27 30 (.lens (.s 29)),
 vT 27 31 (.mv (.s 3)),
 vT 27 32 (vb .leq 30 31),
 vP 33 (.pick (.s 27) (.s 32) (.c (.bool false))),
 vM 2 33])
 (.ret)))))
def k46 : Cd :=
  .seq (.region [vP 1 (.box 23 2 (.s 0)),
 vP 2 (.mv (.c (.bool false)))])
 (.seq (.region [vF 3 1 0,
 vL 4 1 3,
 vN 5 47 [(.s 4), (vi 0), (vi 7)],
 vM 6 5,
 vT 6 7 (.fa (.s 1) 1),
 vT 6 8 (.ld false 1 (.s 7)),
 ⟨some (6, true), some 9, .inr (.fn 47 [(.s 8), (vi 0), (vi 9999)])⟩,
 vP 10 (.pick (.s 6) (.s 9) (.c (.bool false))),
 vM 2 10])
 (.ret))
def k47 : Cd :=
  .seq (.region [vP 6 (.mv (.c (.bool false)))])
 (.seq (.region [vM 7 1,
 vM 8 0,
 vP 9 (vb .leq 7 8),
 vM 10 9,
 vT 10 11 (.mv (.s 0)),
 vT 10 12 (.mv (.s 2)),
 vT 10 13 (vb .leq 11 12),
 vP 14 (.pick (.s 10) (.s 13) (.c (.bool false))),
 vM 6 14])
 (.ret))
def k48 : Cd :=
  .seq (.region [vP 2 (.mv (.c (.bool false)))])
 (.seq (.region [vM 3 0,
 vN 4 47 [(.s 3), (vi 1), (vi 5)],
 vM 2 4])
 (.ret))
def k49 : Cd :=
  .seq (.region [vP 0 (.mv (.c (.slice none 0 0)))])
 (.seq (.region [vP 1 (.bld [(.int .i64 0), (.int .i64 0)] []),
 ⟨none, some 2, .inl (.bld [(.int .i64 0), (.int .i64 0), (.int .i64 0), (.int .i64 0), (.int .i64 0), (.int .i64 0), (.int .i64 0), (.string ⟨#[]⟩)] [(0, 2, (.s 1)), (2, 1, (vi 1)), (3, 1, (vi 5))])⟩,
 vP 3 (.bld [(.int .i64 0), (.int .i64 0)] [(1, 1, (vi 1))]),
 ⟨none, some 4, .inl (.bld [(.int .i64 0), (.int .i64 0), (.int .i64 0), (.int .i64 0), (.int .i64 0), (.int .i64 0), (.int .i64 0), (.string ⟨#[]⟩)] [(0, 2, (.s 3)), (2, 1, (vi 6)), (3, 1, (vi 7))])⟩,
 vP 5 (.bld [(.int .i64 0), (.int .i64 0)] [(0, 1, (vi 1))]),
 ⟨none, some 6, .inl (.bld [(.int .i64 0), (.int .i64 0), (.int .i64 0), (.int .i64 0), (.int .i64 0), (.int .i64 0), (.int .i64 0), (.string ⟨#[]⟩)] [(0, 2, (.s 5)), (2, 1, (vi 1)), (3, 1, (vi 6))])⟩,
 vP 7 (.bld [(.int .i64 0), (.int .i64 0)] [(0, 1, (vi 1)), (1, 1, (vi 1))]),
 vP 8 (.bld [(.int .i64 0), (.int .i64 0)] [(1, 1, (vi 1))]),
 ⟨none, some 9, .inl (.bld [(.int .i64 0), (.int .i64 0), (.int .i64 0), (.int .i64 0), (.int .i64 0), (.int .i64 0), (.int .i64 0), (.string ⟨#[]⟩)] [(0, 2, (.s 7)), (2, 1, (vi 8)), (3, 1, (vi 8)), (5, 2, (.s 8))])⟩,
 vP 10 (.bld [(.int .i64 0), (.int .i64 0)] [(0, 1, (vi 1)), (1, 1, (vi 2))]),
 vP 11 (.bld [(.int .i64 0), (.int .i64 0)] [(1, 1, (vi 1))]),
 ⟨none, some 12, .inl (.bld [(.int .i64 0), (.int .i64 0), (.int .i64 0), (.int .i64 0), (.int .i64 0), (.int .i64 0), (.int .i64 0), (.string ⟨#[]⟩)] [(0, 2, (.s 10)), (2, 1, (vi 7)), (3, 1, (vi 10)), (5, 2, (.s 11))])⟩,
 vP 13 (.bld [(.int .i64 0), (.int .i64 0)] [(0, 1, (vi 2))]),
 vP 14 (.bld [(.int .i64 0), (.int .i64 0)] [(1, 1, (vi 1))]),
 ⟨none, some 15, .inl (.bld [(.int .i64 0), (.int .i64 0), (.int .i64 0), (.int .i64 0), (.int .i64 0), (.int .i64 0), (.int .i64 0), (.string ⟨#[]⟩)] [(0, 2, (.s 13)), (2, 1, (vi 9)), (3, 1, (vi 9)), (5, 2, (.s 14))])⟩,
 ⟨none, some 16, .inl (.bs 25 8 6 [(.int .i64 0), (.int .i64 0), (.int .i64 0), (.int .i64 0), (.int .i64 0), (.int .i64 0), (.int .i64 0), (.string ⟨#[]⟩)] [(0, (.s 2)), (1, (.s 4)), (2, (.s 6)), (3, (.s 9)), (4, (.s 12)), (5, (.s 15))])⟩,
 vM 0 16])
 (.ret))
def k50 : Cd :=
  .seq (.region [vP 3 (.box 45 1 (.s 0)),
 vP 4 (.box 23 2 (.s 1)),
 vP 6 (.alloc 23 [(.int .i64 0), (.int .i64 0)]),
 vP 7 (.mv (vi 0))])
 (.seq (.seq (.region [vP 12 (.ld true 1 (.s 3)),
 vN 13 25 [(.s 12)],
 vM 8 13])
 (.seq (.region [vM 14 8,
 vP 15 (vc .neq 14 0)])
 (.cond (.s 15) (.seq (.region [vP 16 (.bld [(.int .i64 0), (.int .i64 0)] []),
 vM 17 8,
 ⟨none, none, .inl (.st 2 (.s 6) (.s 16))⟩,
 vM 7 17])
 (.ret))
 (.skip))))
 (.seq (.region [vP 18 (.ld true 1 (.s 3)),
 vM 19 2,
 vP 20 (.bld [(.slice none 0 0), (.int .i64 0)] [(0, 1, (.s 18)), (1, 1, (.s 19))]),
 vP 9 (.alloc 94 [(.slice none 0 0), (.int .i64 0)]),
 ⟨none, none, .inl (.st 2 (.s 9) (.s 20))⟩])
 (.seq (.region [vF 21 3 0,
 vL 22 1 21,
 vP 23 (.mkf (.func 66) [] [(.s 4), (.s 9)]),
 vN 24 65 [(.s 22), (.s 23)],
 vM 10 24])
 (.seq (.seq (.region [vM 25 10,
 vP 26 (.bin .eql (.s 25) (.c (.int .i64 (-1))))])
 (.cond (.s 26) (.seq (.region [vP 27 (.bld [(.int .i64 0), (.int .i64 0)] []),
 ⟨none, none, .inl (.st 2 (.s 6) (.s 27))⟩,
 vP 7 (.mv (vi 80))])
 (.ret))
 (.skip)))
 (.seq (.region [vF 28 3 0,
 vL 29 1 28,
 vM 30 10,
 vI 31 8 29 30,
 vP 32 (.ld true 8 (.s 31)),
 ⟨none, some 11, .inl (.alloc 25 [(.int .i64 0), (.int .i64 0), (.int .i64 0), (.int .i64 0), (.int .i64 0), (.int .i64 0), (.int .i64 0), (.string ⟨#[]⟩)])⟩,
 ⟨none, none, .inl (.st 8 (.s 11) (.s 32))⟩])
 (.seq (.seq (.region [vP 33 (.ld true 2 (.s 9)),
 vP 34 (.ld true 8 (.s 11)),
 vN 35 68 [(.s 33), (.s 34)],
 vP 36 (.not (.s 35))])
 (.cond (.s 36) (.seq (.region [vP 37 (.bld [(.int .i64 0), (.int .i64 0)] []),
 ⟨none, none, .inl (.st 2 (.s 6) (.s 37))⟩,
 vP 7 (.mv (vi 4))])
 (.ret))
 (.skip)))
 (.seq (.region [vP 38 (.ld true 2 (.s 9)),
 vP 39 (.ld true 8 (.s 11)),
 vN 40 69 [(.s 38), (.s 39)],
 vP 41 (.fd true 2 0 (.s 40)),
 ⟨none, none, .inl (.st 2 (.s 6) (.s 41))⟩,
 vP 7 (.mv (vi 0))])
 (.ret))))))))
def k51 : Cd :=
  .seq (.region [vP 0 (.alloc 74 [(.slice none 0 0), (.slice none 0 0), (.slice none 0 0), (.slice none 0 0)]),
 vP 1 (.alloc 76 [(.slice none 0 0), (.int .i64 0), (.int .i64 0)])])
 (.seq (.region [vP 2 (.alloc 74 [(.slice none 0 0), (.slice none 0 0), (.slice none 0 0), (.slice none 0 0)])])
 (.seq (.region [vN 3 71 [(vi 1)],
 vN 4 72 [],
 vP 5 (.bst 26 1 2 [(.slice none 0 0)] [(0, (.s 3)), (1, (.s 4))]),
 vN 6 70 [(.s 5)],
 vF 7 2 0,
 vP 8 (.iaa 2 2 (.s 7) (vi 0)),
 vF 9 8 0,
 ⟨none, none, .inl (.st 1 (.s 9) (.s 6))⟩])
 (.seq (.region [vP 10 (.ld true 4 (.s 2)),
 vP 11 (.bld [(.slice none 0 0), (.int .i64 0), (.int .i64 0)] [(2, 1, (vi 1))]),
 ⟨none, none, .inl (.st 4 (.s 0) (.s 10))⟩,
 ⟨none, none, .inl (.st 3 (.s 1) (.s 11))⟩])
 (.ret))))
def k52 : Cd :=
  .seq (.region [vP 3 (.box 74 4 (.s 0)),
 vP 4 (.box 76 3 (.s 1)),
 vP 5 (.box 25 8 (.s 2)),
 vP 6 (.alloc 74 [(.slice none 0 0), (.slice none 0 0), (.slice none 0 0), (.slice none 0 0)]),
 vP 7 (.alloc 76 [(.slice none 0 0), (.int .i64 0), (.int .i64 0)]),
 vP 8 (.mv (vi 0))])
 (.seq (.seq (.region [vP 14 (.ld true 4 (.s 3)),
 vP 15 (.ld true 3 (.s 4)),
 vN 16 73 [(.s 14), (.s 15)],
 vP 17 (.not (.s 16))])
 (.cond (.s 17) (.seq (.region [vP 18 (.bld [(.slice none 0 0), (.slice none 0 0), (.slice none 0 0), (.slice none 0 0)] []),
 vP 19 (.bld [(.slice none 0 0), (.int .i64 0), (.int .i64 0)] []),
 ⟨none, none, .inl (.st 4 (.s 6) (.s 18))⟩,
 ⟨none, none, .inl (.st 3 (.s 7) (.s 19))⟩,
 vP 8 (.mv (vi 83))])
 (.ret))
 (.skip)))
 (.seq (.region [vF 21 4 0,
 vP 22 (.ld true 1 (.s 21)),
 vP 23 (.ld true 8 (.s 5)),
 vN 24 22 [(.s 22), (.s 23)],
 vM 20 24,
 vP 25 (.ex (.s 20) 0),
 vP 26 (.ex (.s 20) 1),
 vP 9 (.alloc 45 [(.slice none 0 0)]),
 ⟨none, none, .inl (.st 1 (.s 9) (.s 25))⟩,
 vM 10 26])
 (.seq (.seq (.region [vM 27 10,
 vP 28 (vc .neq 27 0)])
 (.cond (.s 28) (.seq (.region [vP 29 (.bld [(.slice none 0 0), (.slice none 0 0), (.slice none 0 0), (.slice none 0 0)] []),
 vP 30 (.bld [(.slice none 0 0), (.int .i64 0), (.int .i64 0)] []),
 vM 31 10,
 ⟨none, none, .inl (.st 4 (.s 6) (.s 29))⟩,
 ⟨none, none, .inl (.st 3 (.s 7) (.s 30))⟩,
 vM 8 31])
 (.ret))
 (.skip)))
 (.seq (.region [vP 32 (.ld true 1 (.s 9)),
 vF 33 4 0,
 vP 34 (.ld true 1 (.s 33)),
 vN 35 74 [(.s 32), (.s 34)],
 vM 11 35])
 (.seq (.region [vP 36 (.ld true 1 (.s 9)),
 vF 37 4 0,
 ⟨none, none, .inl (.st 1 (.s 37) (.s 36))⟩])
 (.seq (.seq (.region [vM 38 11])
 (.cond (.s 38) (.seq (.draw [vD (vP 39 (.ld true 4 (.s 3))) 0,
 ⟨vN 40 75 [(.s 39)], none, [.av 4], 1, false⟩,
 ⟨vP 41 (.ld true 3 (.s 4)), some [], [.keep 4], 0, false⟩,
 ⟨⟨none, none, .inl (.st 4 (.s 6) (.s 40))⟩, (some [.at 6]), [.av 4], 3, false⟩,
 ⟨⟨none, none, .inl (.st 3 (.s 7) (.s 41))⟩, (some [.at 7]), [], 15, false⟩,
 vD (vP 8 (.mv (vi 0))) 31])
 (.ret))
 (.skip)))
 (.seq (.region [vP 43 (.ld true 8 (.s 5)),
 vN 44 9 [(.s 43)],
 vM 42 44,
 vP 45 (.ex (.s 42) 0),
 vP 46 (.ex (.s 42) 1),
 vM 12 45,
 vM 13 46])
 (.seq (.seq (.region [vF 47 4 1,
 vL 48 1 47,
 vF 49 3 0,
 vP 50 (.iaa 2 2 (.s 49) (.s 48)),
 vP 51 (.ld true 2 (.s 50)),
 vN 52 76 [(.s 51)],
 vM 53 12,
 vP 54 (.len (.s 53)),
 vP 55 (vb .add 52 54),
 vP 56 (vc .gtr 55 200000)])
 (.cond (.s 56) (.seq (.region [vP 57 (.bld [(.slice none 0 0), (.slice none 0 0), (.slice none 0 0), (.slice none 0 0)] []),
 vP 58 (.bld [(.slice none 0 0), (.int .i64 0), (.int .i64 0)] []),
 ⟨none, none, .inl (.st 4 (.s 6) (.s 57))⟩,
 ⟨none, none, .inl (.st 3 (.s 7) (.s 58))⟩,
 vP 8 (.mv (vi 84))])
 (.ret))
 (.skip)))
 (.seq (.draw [vD (vF 59 4 1) 0,
 vD (vL 60 1 59) 1,
 vD (vM 61 12) 0,
 ⟨vN 62 77 [(.s 60), (.s 61)], (some [.at 12]), [], 7, false⟩,
 ⟨vP 63 (.ld true 4 (.s 3)), some [], [.at 12], 0, false⟩,
 ⟨⟨none, some 64, .inr (.val false (.s 62) [(.s 63)])⟩, some [], [], 31, false⟩,
 ⟨vP 65 (.ld true 3 (.s 4)), some [], [.at 12, .at 6], 0, false⟩,
 ⟨⟨none, none, .inl (.st 4 (.s 6) (.s 64))⟩, (some [.at 6]), [], 63, false⟩,
 ⟨⟨none, none, .inl (.st 3 (.s 7) (.s 65))⟩, (some [.at 7]), [], 255, false⟩,
 vD (vP 8 (.mv (vi 0))) 511])
 (.ret))))))))))
def k53l0 : Cd :=
  .seq (.region [vP 14 (vb .lss 13 12)])
 (.seq (.cond (.s 14) (.skip)
 (.exit 0))
 (.seq (.block 1 (.seq (.region [vM 15 13,
 vM 5 15])
 (.seq (.draw [vD (vM 16 0) 0,
 vD (vM 17 5) 0,
 vD (vI 18 1 16 17) 3,
 vD (vL 19 1 18) 7,
 vD (vM 20 1) 0,
 vD (vM 21 5) 0,
 vD (vI 22 1 20 21) 48,
 vD (vL 23 1 22) 112,
 vD (vP 24 (vb .neq 19 23)) 255])
 (.cond (.s 24) (.seq (.region [vP 4 (.mv (.c (.bool false)))])
 (.ret))
 (.skip)))))
 (.region [vP 25 (vc .add 13 1),
 vM 13 25])))
def k53 : Cd :=
  .seq (.region [vP 4 (.mv (.c (.bool false)))])
 (.seq (.seq (.region [vM 6 0,
 vP 7 (.len (.s 6)),
 vM 8 1,
 vP 9 (.len (.s 8)),
 vP 10 (vb .neq 7 9)])
 (.cond (.s 10) (.seq (.region [vP 4 (.mv (.c (.bool false)))])
 (.ret))
 (.skip)))
 (.seq (.seq (.region [vM 11 0,
 vP 12 (.len (.s 11)),
 vP 13 (.mv (vi 0))])
 (.block 0 (.loop k53l0)))
 (.seq (.region [vP 4 (.mv (.c (.bool true)))])
 (.ret))))
def k54l0 : Cd :=
  .seq (.region [vP 19 (vb .lss 18 17)])
 (.seq (.cond (.s 19) (.skip)
 (.exit 0))
 (.seq (.block 1 (.seq (.region [vM 20 18,
 vI 21 8 16 18,
 vP 22 (.ld true 8 (.s 21)),
 ⟨none, some 8, .inl (.alloc 25 [(.int .i64 0), (.int .i64 0), (.int .i64 0), (.int .i64 0), (.int .i64 0), (.int .i64 0), (.int .i64 0), (.string ⟨#[]⟩)])⟩,
 vM 7 20,
 ⟨none, none, .inl (.st 8 (.s 8) (.s 22))⟩])
 (.seq (.region [vP 23 (.ld true 2 (.s 5)),
 vP 24 (.ld true 8 (.s 8)),
 vN 25 68 [(.s 23), (.s 24)]])
 (.cond (.s 25) (.region [vM 26 6,
 vM 27 7,
 vP 28 (.bs 3 1 1 [(.int .i64 0)] [(0, (.s 27))]),
 vP 29 (.app 3 1 8 (.s 26) (.s 28)),
 vM 6 29])
 (.skip)))))
 (.region [vP 30 (vc .add 18 1),
 vM 18 30])))
def k54 : Cd :=
  .seq (.region [vP 2 (.box 45 1 (.s 0)),
 vP 4 (.mv (.c (.slice none 0 0)))])
 (.seq (.seq (.region [vP 9 (.ld true 1 (.s 2)),
 vN 10 25 [(.s 9)],
 vP 11 (vc .neq 10 0)])
 (.cond (.s 11) (.seq (.region [vP 4 (.mv (.c (.slice none 0 0)))])
 (.ret))
 (.skip)))
 (.seq (.region [vP 12 (.ld true 1 (.s 2)),
 vM 13 1,
 vP 14 (.bld [(.slice none 0 0), (.int .i64 0)] [(0, 1, (.s 12)), (1, 1, (.s 13))]),
 vP 5 (.alloc 94 [(.slice none 0 0), (.int .i64 0)]),
 ⟨none, none, .inl (.st 2 (.s 5) (.s 14))⟩])
 (.seq (.region [vP 6 (.mv (.c (.slice none 0 0)))])
 (.seq (.seq (.region [vF 15 2 0,
 vL 16 1 15,
 vP 17 (.len (.s 16)),
 vP 18 (.mv (vi 0))])
 (.block 0 (.loop k54l0)))
 (.seq (.region [vM 31 6,
 vM 4 31])
 (.ret))))))
def k55 : Cd :=
  .seq (.region [⟨none, some 2, .inl (.alloc 25 [(.int .i64 0), (.int .i64 0), (.int .i64 0), (.int .i64 0), (.int .i64 0), (.int .i64 0), (.int .i64 0), (.string ⟨#[]⟩)])⟩,
 vP 3 (.mv (vi 0))])
 (.seq (.seq (.region [vM 6 0,
 vP 7 (.len (.s 6)),
 vP 8 (vc .lss 7 8)])
 (.cond (.s 8) (.seq (.region [⟨none, some 9, .inl (.bld [(.int .i64 0), (.int .i64 0), (.int .i64 0), (.int .i64 0), (.int .i64 0), (.int .i64 0), (.int .i64 0), (.string ⟨#[]⟩)] [])⟩,
 ⟨none, none, .inl (.st 8 (.s 2) (.s 9))⟩,
 vP 3 (.mv (vi 0))])
 (.ret))
 (.skip)))
 (.seq (.region [vM 10 0,
 vN 11 40 [(.s 10)],
 vP 12 (.cvi .i64 (.s 11)),
 vM 3 12])
 (.seq (.seq (.region [vM 13 3,
 vM 14 0,
 vP 15 (.len (.s 14)),
 vP 16 (vc .sub 15 8),
 vN 17 39 [(.s 13), (vi 0), (.s 16)],
 vP 18 (.not (.s 17))])
 (.cond (.s 18) (.seq (.region [⟨none, some 19, .inl (.bld [(.int .i64 0), (.int .i64 0), (.int .i64 0), (.int .i64 0), (.int .i64 0), (.int .i64 0), (.int .i64 0), (.string ⟨#[]⟩)] [])⟩,
 ⟨none, none, .inl (.st 8 (.s 2) (.s 19))⟩,
 vP 3 (.mv (vi 0))])
 (.ret))
 (.skip)))
 (.seq (.region [vM 20 3,
 vP 21 (vc .add 20 8),
 vM 3 21])
 (.seq (.region [vM 22 0,
 vM 23 3,
 vP 24 (.slc 1 (.s 22) (some (vi 8)) (some (.s 23)) none),
 vM 4 24])
 (.seq (.seq (.draw [vD (vM 25 4) 0,
 vD (vN 26 16 [(.s 25)]) 1,
 vD (vM 27 0) 0,
 vD (vP 28 (.slc 1 (.s 27) (some (vi 4)) none none)) 4,
 vD (vN 29 40 [(.s 28)]) 15,
 vD (vP 30 (vb .neq 26 29)) 31])
 (.cond (.s 30) (.seq (.region [⟨none, some 31, .inl (.bld [(.int .i64 0), (.int .i64 0), (.int .i64 0), (.int .i64 0), (.int .i64 0), (.int .i64 0), (.int .i64 0), (.string ⟨#[]⟩)] [])⟩,
 ⟨none, none, .inl (.st 8 (.s 2) (.s 31))⟩,
 vP 3 (.mv (vi 0))])
 (.ret))
 (.skip)))
 (.seq (.region [vM 33 4,
 vN 34 11 [(.s 33)],
 vM 32 34,
 vP 35 (.ex (.s 32) 0),
 vP 36 (.ex (.s 32) 1),
 ⟨none, none, .inl (.st 8 (.s 2) (.s 35))⟩,
 vM 5 36])
 (.seq (.seq (.region [vM 37 5,
 vP 38 (vc .neq 37 0)])
 (.cond (.s 38) (.seq (.region [⟨none, some 39, .inl (.bld [(.int .i64 0), (.int .i64 0), (.int .i64 0), (.int .i64 0), (.int .i64 0), (.int .i64 0), (.int .i64 0), (.string ⟨#[]⟩)] [])⟩,
 ⟨none, none, .inl (.st 8 (.s 2) (.s 39))⟩,
 vP 3 (.mv (vi 0))])
 (.ret))
 (.skip)))
 (.seq (.region [vP 40 (.ld true 8 (.s 2)),
 vM 41 3,
 ⟨none, none, .inl (.st 8 (.s 2) (.s 40))⟩,
 vM 3 41])
 (.ret))))))))))
def k56 : Cd :=
  .seq (.region [⟨none, some 2, .inl (.alloc 25 [(.int .i64 0), (.int .i64 0), (.int .i64 0), (.int .i64 0), (.int .i64 0), (.int .i64 0), (.int .i64 0), (.string ⟨#[]⟩)])⟩,
 vP 3 (.mv (vi 0))])
 (.seq (.seq (.region [vM 7 0,
 vP 8 (.len (.s 7)),
 vP 9 (vc .lss 8 8)])
 (.cond (.s 9) (.seq (.region [⟨none, some 10, .inl (.bld [(.int .i64 0), (.int .i64 0), (.int .i64 0), (.int .i64 0), (.int .i64 0), (.int .i64 0), (.int .i64 0), (.string ⟨#[]⟩)] [])⟩,
 ⟨none, none, .inl (.st 8 (.s 2) (.s 10))⟩,
 vP 3 (.mv (vi 0))])
 (.ret))
 (.skip)))
 (.seq (.region [vM 11 0,
 vP 12 (.slc 1 (.s 11) none (some (vi 4)) none),
 vN 13 42 [(.s 12)],
 vM 4 13])
 (.seq (.seq (.draw [vD (vM 14 4) 0,
 vD (vP 15 (vc .lss 14 20)) 1,
 vD (vM 16 15) 3,
 vD (vU 16 17 (.mv (.s 4))) 7,
 vD (vU 16 18 (vc .gtr 17 8020)) 15,
 vD (vP 19 (.pick (.s 16) (.c (.bool true)) (.s 18))) 31,
 vD (vM 20 19) 63,
 vD (vU 20 21 (.mv (.s 0))) 127,
 vD (vU 20 22 (.len (.s 21))) 255,
 vD (vU 20 23 (.mv (.s 4))) 127,
 vD (vU 20 24 (.bin .add (vi 8) (.s 23))) 639,
 vD (vU 20 25 (vb .lss 22 24)) 2047,
 vD (vP 26 (.pick (.s 20) (.c (.bool true)) (.s 25))) 4095,
 vD (vM 27 26) 8191,
 vD (vU 27 28 (.mv (.s 0))) 16383,
 vD (vU 27 29 (.slc 1 (.s 28) (some (vi 4)) (some (vi 8)) none)) 32767,
 ⟨⟨some (27, false), some 30, .inr (.fn 42 [(.s 29)])⟩, some [], [], 65535, false⟩,
 vD (vU 27 31 (.mv (.s 0))) 16383,
 vD (vU 27 32 (.mv (.s 4))) 16383,
 vD (vU 27 33 (.bin .add (vi 8) (.s 32))) 278527,
 vD (vU 27 34 (.slc 1 (.s 31) (some (vi 8)) (some (.s 33)) none)) 933887,
 ⟨⟨some (27, false), some 35, .inr (.fn 17 [(.s 34)])⟩, some [], [], 2097151, false⟩,
 vD (vU 27 36 (.cvi .i64 (.s 35))) 4194303,
 vD (vU 27 37 (vb .neq 30 36)) 8388607,
 vD (vP 38 (.pick (.s 27) (.c (.bool true)) (.s 37))) 16777215])
 (.cond (.s 38) (.seq (.region [⟨none, some 39, .inl (.bld [(.int .i64 0), (.int .i64 0), (.int .i64 0), (.int .i64 0), (.int .i64 0), (.int .i64 0), (.int .i64 0), (.string ⟨#[]⟩)] [])⟩,
 ⟨none, none, .inl (.st 8 (.s 2) (.s 39))⟩,
 vP 3 (.mv (vi 0))])
 (.ret))
 (.skip)))
 (.seq (.region [vM 41 0,
 vM 42 4,
 vP 43 (.bin .add (vi 8) (.s 42)),
 vP 44 (.slc 1 (.s 41) (some (vi 8)) (some (.s 43)) none),
 vN 45 12 [(.s 44)],
 vM 40 45,
 vP 46 (.ex (.s 40) 0),
 vP 47 (.ex (.s 40) 1),
 ⟨none, some 5, .inl (.alloc 25 [(.int .i64 0), (.int .i64 0), (.int .i64 0), (.int .i64 0), (.int .i64 0), (.int .i64 0), (.int .i64 0), (.string ⟨#[]⟩)])⟩,
 ⟨none, none, .inl (.st 8 (.s 5) (.s 46))⟩,
 vM 6 47])
 (.seq (.seq (.region [vM 48 6,
 vP 49 (vc .neq 48 0)])
 (.cond (.s 49) (.seq (.region [⟨none, some 50, .inl (.bld [(.int .i64 0), (.int .i64 0), (.int .i64 0), (.int .i64 0), (.int .i64 0), (.int .i64 0), (.int .i64 0), (.string ⟨#[]⟩)] [])⟩,
 ⟨none, none, .inl (.st 8 (.s 2) (.s 50))⟩,
 vP 3 (.mv (vi 0))])
 (.ret))
 (.skip)))
 (.seq (.region [vP 51 (.ld true 8 (.s 5)),
 vM 52 4,
 vP 53 (.bin .add (vi 8) (.s 52)),
 ⟨none, none, .inl (.st 8 (.s 2) (.s 51))⟩,
 vM 3 53])
 (.ret)))))))
def k57l0 : Cd :=
  .seq (.region [vP 11 (vb .lss 10 9)])
 (.seq (.cond (.s 11) (.skip)
 (.exit 0))
 (.seq (.block 1 (.seq (.region [vM 12 10,
 vI 13 8 8 10,
 vP 14 (.ld true 8 (.s 13)),
 ⟨none, some 6, .inl (.alloc 25 [(.int .i64 0), (.int .i64 0), (.int .i64 0), (.int .i64 0), (.int .i64 0), (.int .i64 0), (.int .i64 0), (.string ⟨#[]⟩)])⟩,
 vM 5 12,
 ⟨none, none, .inl (.st 8 (.s 6) (.s 14))⟩])
 (.seq (.region [vF 15 6 0,
 vP 16 (.ld true 2 (.s 15)),
 vP 17 (.ld true 2 (.s 3)),
 vP 18 (.eq false (.cells [.int, .int]) (.s 16) (.s 17))])
 (.cond (.s 18) (.seq (.region [vM 19 5,
 vM 4 19])
 (.ret))
 (.skip)))))
 (.region [vP 20 (vc .add 10 1),
 vM 10 20])))
def k57 : Cd :=
  .seq (.region [vP 2 (.box 45 1 (.s 0)),
 vP 3 (.box 23 2 (.s 1)),
 vP 4 (.mv (vi 0))])
 (.seq (.seq (.region [vF 7 2 0,
 vL 8 1 7,
 vP 9 (.len (.s 8)),
 vP 10 (.mv (vi 0))])
 (.block 0 (.loop k57l0)))
 (.seq (.region [vP 4 (.mv (.c (.int .i64 (-1))))])
 (.ret)))
def k58 : Cd :=
  .seq (.region [vP 1 (.box 45 1 (.s 0)),
 vP 2 (.alloc 45 [(.slice none 0 0)])])
 (.seq (.region [⟨none, some 3, .inl (.bs 25 8 0 [(.int .i64 0), (.int .i64 0), (.int .i64 0), (.int .i64 0), (.int .i64 0), (.int .i64 0), (.int .i64 0), (.string ⟨#[]⟩)] [])⟩,
 vF 4 1 0,
 vL 5 1 4,
 vP 6 (.app 25 8 72 (.s 3) (.s 5)),
 vP 7 (.bld [(.slice none 0 0)] [(0, 1, (.s 6))]),
 ⟨none, none, .inl (.st 1 (.s 2) (.s 7))⟩])
 (.ret))
def k59l0 : Cd :=
  .seq (.seq (.draw [vD (vM 7 5) 0,
 vD (vF 8 2 0) 0,
 vD (vL 9 1 8) 2,
 vD (vP 10 (.len (.s 9))) 6,
 vD (vP 11 (vb .lss 7 10)) 15,
 vD (vM 12 11) 31,
 vD (vT 12 13 (.fa (.s 2) 0)) 63,
 vD (vT 12 14 (.ld false 1 (.s 13))) 127,
 vD (vT 12 15 (.mv (.s 5))) 63,
 vD (vT 12 16 (.ias 8 (.s 14) (.s 15))) 511,
 vD (vT 12 17 (.fa (.s 16) 0)) 1023,
 vD (vT 12 18 (.ld true 2 (.s 17))) 2047,
 vD (vT 12 19 (.fa (.s 3) 0)) 63,
 vD (vT 12 20 (.ld true 2 (.s 19))) 4159,
 ⟨⟨some (12, true), some 21, .inr (.fn 61 [(.s 18), (.s 20)])⟩, some [], [], 16383, false⟩,
 vD (vP 22 (.pick (.s 12) (.s 21) (.c (.bool false)))) 32767])
 (.cond (.s 22) (.skip)
 (.exit 0)))
 (.block 1 (.region [vM 23 5,
 vP 24 (vc .add 23 1),
 vM 5 24]))
def k59 : Cd :=
  .seq (.region [vP 2 (.box 45 1 (.s 0)),
 vP 3 (.box 25 8 (.s 1)),
 vP 4 (.alloc 45 [(.slice none 0 0)])])
 (.seq (.region [vP 5 (.mv (vi 0))])
 (.seq (.block 0 (.loop k59l0))
 (.seq (.region [⟨none, some 25, .inl (.bs 25 8 0 [(.int .i64 0), (.int .i64 0), (.int .i64 0), (.int .i64 0), (.int .i64 0), (.int .i64 0), (.int .i64 0), (.string ⟨#[]⟩)] [])⟩,
 vF 26 2 0,
 vL 27 1 26,
 vM 28 5,
 vP 29 (.slc 8 (.s 27) none (some (.s 28)) none),
 vP 30 (.app 25 8 72 (.s 25) (.s 29)),
 vM 6 30])
 (.seq (.region [vM 31 6,
 vP 32 (.ld true 8 (.s 3)),
 ⟨none, some 33, .inl (.bs 25 8 1 [(.int .i64 0), (.int .i64 0), (.int .i64 0), (.int .i64 0), (.int .i64 0), (.int .i64 0), (.int .i64 0), (.string ⟨#[]⟩)] [(0, (.s 32))])⟩,
 vP 34 (.app 25 8 72 (.s 31) (.s 33)),
 vM 6 34])
 (.seq (.region [vM 35 6,
 vF 36 2 0,
 vL 37 1 36,
 vM 38 5,
 vP 39 (.slc 8 (.s 37) (some (.s 38)) none none),
 vP 40 (.app 25 8 72 (.s 35) (.s 39)),
 vP 41 (.bld [(.slice none 0 0)] [(0, 1, (.s 40))]),
 ⟨none, none, .inl (.st 1 (.s 4) (.s 41))⟩])
 (.ret))))))
def k60 : Cd :=
  .seq (.region [vP 2 (.box 23 2 (.s 0)),
 vP 3 (.box 23 2 (.s 1)),
 vP 4 (.mv (vi 0))])
 (.seq (.draw [vD (vF 5 2 0) 0,
 vD (vL 6 1 5) 1,
 vD (vF 7 3 0) 0,
 vD (vL 8 1 7) 4,
 vD (vN 9 79 [(.s 6), (.s 8)]) 15,
 vD (vF 10 2 1) 0,
 vD (vL 11 1 10) 32,
 vD (vF 12 3 1) 0,
 vD (vL 13 1 12) 128,
 vD (vN 14 79 [(.s 11), (.s 13)]) 511,
 ⟨vP 15 (.bst 3 1 2 [(.int .i64 0)] [(0, (.s 9)), (1, (.s 14))]), (some [.fr 15]), [], 1023, false⟩,
 vD (vN 16 78 [(.s 15)]) 2047,
 vD (vM 4 16) 4095])
 (.ret))
def k61 : Cd :=
  .seq (.region [vP 2 (.box 23 2 (.s 0)),
 vP 3 (.box 23 2 (.s 1)),
 vP 4 (.mv (.c (.bool false)))])
 (.seq (.region [vF 5 2 0,
 vL 6 1 5,
 vF 7 3 0,
 vL 8 1 7,
 vP 9 (vb .lss 6 8),
 vM 10 9,
 vU 10 11 (.fa (.s 2) 0),
 vU 10 12 (.ld false 1 (.s 11)),
 vU 10 13 (.fa (.s 3) 0),
 vU 10 14 (.ld false 1 (.s 13)),
 vU 10 15 (vb .eql 12 14),
 vU 10 16 (.mv (.s 15)),
 vT 16 17 (.fa (.s 2) 1),
 vT 16 18 (.ld false 1 (.s 17)),
 vT 16 19 (.fa (.s 3) 1),
 vT 16 20 (.ld false 1 (.s 19)),
 vT 16 21 (vb .lss 18 20),
 vU 10 22 (.pick (.s 16) (.s 21) (.c (.bool false))),
 vP 23 (.pick (.s 10) (.c (.bool true)) (.s 22)),
 vM 4 23])
 (.ret))
def k62 : Cd :=
  .seq (.region [vP 2 (.mv (.c (.bool false)))])
 (.seq (.region [vM 3 0,
 vN 4 39 [(.s 3), (vi 0), (vi 7)],
 vM 2 4])
 (.ret))
def k63l0 : Cd :=
  .seq (.region [vP 14 (vb .lss 13 12)])
 (.seq (.cond (.s 14) (.skip)
 (.exit 0))
 (.seq (.block 1 (.seq (.region [vM 15 13,
 vM 4 15])
 (.seq (.draw [vD (vM 16 4) 0,
 vD (vP 17 (vc .gtr 16 0)) 1,
 vD (vM 18 17) 3,
 vD (vT 18 19 (.mv (.s 2))) 7,
 vD (vT 18 20 (.mv (.s 4))) 7,
 vD (vT 18 21 (vc .sub 20 1)) 23,
 vD (vT 18 22 (.ias 8 (.s 19) (.s 21))) 63,
 vD (vT 18 23 (.fa (.s 22) 0)) 127,
 vD (vT 18 24 (.ld true 2 (.s 23))) 255,
 vD (vT 18 25 (.mv (.s 2))) 7,
 vD (vT 18 26 (.mv (.s 4))) 7,
 vD (vT 18 27 (.ias 8 (.s 25) (.s 26))) 1543,
 vD (vT 18 28 (.fa (.s 27) 0)) 3591,
 vD (vT 18 29 (.ld true 2 (.s 28))) 7687,
 vD (vT 18 30 (.eq false (.cells [.int, .int]) (.s 24) (.s 29))) 16383,
 vD (vP 31 (.pick (.s 18) (.s 30) (.c (.bool false)))) 32767])
 (.cond (.s 31) (.seq (.region [vP 2 (.mv (.c (.slice none 0 0))),
 vP 3 (.mv (.c (.bool false)))])
 (.ret))
 (.skip)))))
 (.region [vP 32 (vc .add 13 1),
 vM 13 32])))
def k63 : Cd :=
  .seq (.region [vP 2 (.mv (.c (.slice none 0 0))),
 vP 3 (.mv (.c (.bool false)))])
 (.seq (.region [vM 5 0,
 vN 6 80 [(.s 5)],
 vM 2 6])
 (.seq (.region [vM 7 2,
 vN 8 81 [(.s 7), (.f 82)]])
 (.seq (.region [vM 9 2,
 vN 10 83 [(.s 9)],
 vM 2 10])
 (.seq (.seq (.region [vM 11 2,
 vP 12 (.len (.s 11)),
 vP 13 (.mv (vi 0))])
 (.block 0 (.loop k63l0)))
 (.seq (.region [vM 33 2,
 vM 2 33,
 vP 3 (.mv (.c (.bool true)))])
 (.ret))))))
def k64 : Cd :=
  .seq (.region [vP 1 (.box 25 8 (.s 0)),
 vP 2 (.mv (.c (.bool false)))])
 (.seq (.region [vF 3 1 2,
 vL 4 1 3,
 vN 5 39 [(.s 4), (vi 1), (vi 5)],
 vM 2 5])
 (.ret))
def k65l0 : Cd :=
  .seq (.region [vP 9 (vb .lss 8 7)])
 (.seq (.cond (.s 9) (.skip)
 (.exit 0))
 (.seq (.block 1 (.seq (.region [vM 10 8,
 vM 5 10])
 (.seq (.region [vM 11 1,
 vM 12 0,
 vM 13 5,
 vI 14 8 12 13,
 vP 15 (.ld true 8 (.s 14)),
 ⟨none, some 16, .inr (.val false (.s 11) [(.s 15)])⟩])
 (.cond (.s 16) (.seq (.region [vM 17 5,
 vM 4 17])
 (.ret))
 (.skip)))))
 (.region [vP 18 (vc .add 8 1),
 vM 8 18])))
def k65 : Cd :=
  .seq (.region [vP 4 (.mv (vi 0))])
 (.seq (.seq (.region [vM 6 0,
 vP 7 (.len (.s 6)),
 vP 8 (.mv (vi 0))])
 (.block 0 (.loop k65l0)))
 (.seq (.region [vP 4 (.mv (.c (.int .i64 (-1))))])
 (.ret)))
def k66 : Cd :=
  .seq (.region [vP 3 (.box 25 8 (.s 0)),
 vP 4 (.mv (.c (.bool false)))])
 (.seq (.region [vF 5 3 0,
 vP 6 (.ld true 2 (.s 5)),
 vP 7 (.ld true 2 (.s 1)),
 vP 8 (.eq false (.cells [.int, .int]) (.s 6) (.s 7)),
 vM 9 8,
 vT 9 10 (.ld true 8 (.s 3)),
 ⟨some (9, true), some 11, .inr (.fn 64 [(.s 10)])⟩,
 vP 12 (.pick (.s 9) (.s 11) (.c (.bool false))),
 vM 13 12,
 vT 13 14 (.ld true 2 (.s 2)),
 vT 13 15 (.ld true 8 (.s 3)),
 ⟨some (13, true), some 16, .inr (.fn 67 [(.s 14), (.s 15)])⟩,
 vP 17 (.pick (.s 13) (.s 16) (.c (.bool false))),
 vM 4 17])
 (.ret))
def k67 : Cd :=
  .seq (.region [vP 2 (.box 94 2 (.s 0)),
 vP 3 (.box 25 8 (.s 1)),
 vP 4 (.mv (.c (.bool false)))])
 (.seq (.region [vF 5 3 3,
 vL 6 1 5,
 vF 7 2 1,
 vL 8 1 7,
 vP 9 (vb .leq 6 8),
 vM 4 9])
 (.ret))
def k68 : Cd :=
  .seq (.region [vP 2 (.box 94 2 (.s 0)),
 vP 3 (.box 25 8 (.s 1)),
 vP 4 (.mv (.c (.bool false)))])
 (.seq (.draw [vD (vP 5 (.ld true 8 (.s 3))) 0,
 vD (vN 6 64 [(.s 5)]) 1,
 vD (vM 7 6) 3,
 vD (vT 7 8 (.ld true 2 (.s 2))) 7,
 vD (vT 7 9 (.ld true 8 (.s 3))) 7,
 ⟨⟨some (7, true), some 10, .inr (.fn 67 [(.s 8), (.s 9)])⟩, some [], [], 31, false⟩,
 vD (vP 11 (.pick (.s 7) (.s 10) (.c (.bool false)))) 63,
 vD (vM 12 11) 127,
 vD (vT 12 13 (.ld true 2 (.s 2))) 255,
 vD (vT 12 14 (.ld true 8 (.s 3))) 255,
 ⟨⟨some (12, true), some 15, .inr (.fn 84 [(.s 13), (.s 14)])⟩, some [], [], 1023, false⟩,
 vD (vT 12 16 (.not (.s 15))) 2047,
 vD (vP 17 (.pick (.s 12) (.s 16) (.c (.bool false)))) 4095,
 vD (vM 18 17) 8191,
 vD (vT 18 19 (.ld true 2 (.s 2))) 16383,
 vD (vT 18 20 (.ld true 2 (.s 2))) 16383,
 vD (vT 18 21 (.ld true 8 (.s 3))) 16383,
 ⟨⟨some (18, true), some 22, .inr (.fn 69 [(.s 20), (.s 21)])⟩, some [], [], 114687, false⟩,
 ⟨⟨some (18, true), some 23, .inr (.fn 85 [(.s 19), (.s 22)])⟩, some [], [], 262143, false⟩,
 vD (vT 18 24 (.not (.s 23))) 524287,
 vD (vP 25 (.pick (.s 18) (.s 24) (.c (.bool false)))) 1048575,
 vD (vM 4 25) 2097151])
 (.ret))
def k69l0 : Cd :=
  .block 1 (.seq (.region [vP 6 (.ld true 2 (.s 2)),
 vP 7 (.ld true 8 (.s 3)),
 vP 8 (.bst 3 1 1 [(.int .i64 0)] [(0, (vi 6))]),
 vN 9 87 [(.s 6), (.s 7), (.s 8)],
 vP 10 (.mkf (.func 88) [] [(.s 2)]),
 vN 11 86 [(.s 9), (.s 10)],
 vM 5 11])
 (.seq (.seq (.region [vM 12 5,
 vP 13 (.len (.s 12)),
 vP 14 (vc .eql 13 0)])
 (.cond (.s 14) (.seq (.region [vP 15 (.ld true 8 (.s 3)),
 ⟨none, none, .inl (.st 8 (.s 4) (.s 15))⟩])
 (.ret))
 (.skip)))
 (.region [vM 16 5,
 vN 17 89 [(.s 16), (.f 90)],
 ⟨none, none, .inl (.st 8 (.s 3) (.s 17))⟩])))
def k69 : Cd :=
  .seq (.region [vP 2 (.box 94 2 (.s 0)),
 vP 3 (.box 25 8 (.s 1)),
 ⟨none, some 4, .inl (.alloc 25 [(.int .i64 0), (.int .i64 0), (.int .i64 0), (.int .i64 0), (.int .i64 0), (.int .i64 0), (.int .i64 0), (.string ⟨#[]⟩)])⟩])
 (.block 0 (.loop k69l0))
def k70l0 : Cd :=
  .seq (.region [vP 12 (vb .lss 11 10)])
 (.seq (.cond (.s 12) (.skip)
 (.exit 0))
 (.seq (.block 1 (.seq (.region [vI 13 1 9 11,
 vL 14 1 13,
 vM 5 14])
 (.seq (.region [vM 15 3,
 vM 16 5,
 vP 17 (.len (.s 16)),
 vP 18 (vb .add 15 17),
 vM 3 18])
 (.seq (.region [vM 19 3,
 vP 20 (vc .lss 19 0)])
 (.cond (.s 20) (.region [⟨none, some 21, .inl (.mki 9 (.c (.string ⟨#[108, 101, 110, 32, 111, 117, 116, 32, 111, 102, 32, 114, 97, 110, 103, 101]⟩)))⟩,
 ⟨none, none, .inr (.pan (.s 21))⟩])
 (.skip))))))
 (.region [vP 22 (vc .add 11 1),
 vM 11 22])))
def k70l1 : Cd :=
  .seq (.region [vP 28 (vb .lss 27 26)])
 (.seq (.cond (.s 28) (.skip)
 (.exit 2))
 (.seq (.block 3 (.seq (.region [vI 29 1 25 27,
 vL 30 1 29,
 vM 8 30])
 (.region [vM 31 6,
 vM 32 8,
 vP 33 (.app 5 1 1 (.s 31) (.s 32)),
 vM 6 33])))
 (.region [vP 34 (vc .add 27 1),
 vM 27 34])))
def k70 : Cd :=
  .seq (.region [vP 2 (.mv (.c (.slice none 0 0)))])
 (.seq (.region [vP 3 (.mv (vi 0))])
 (.seq (.seq (.region [vM 9 0,
 vP 10 (.len (.s 9)),
 vP 11 (.mv (vi 0))])
 (.block 0 (.loop k70l0)))
 (.seq (.region [vM 23 3,
 vN 24 91 [(.c (.slice none 0 0)), (.s 23)],
 vM 6 24])
 (.seq (.seq (.region [vM 25 0,
 vP 26 (.len (.s 25)),
 vP 27 (.mv (vi 0))])
 (.block 2 (.loop k70l1)))
 (.seq (.region [vM 35 6,
 vM 2 35])
 (.ret))))))
def k71 : Cd :=
  .seq (.region [vP 2 (.mv (.c (.slice none 0 0)))])
 (.seq (.region [vP 4 (.mks 5 1 1 [(.int .u8 0)] (vi 14) (vi 14)),
 vM 3 4])
 (.seq (.region [vM 5 3,
 ⟨none, some 6, .inl (.cpy 1 (.s 5) (.c (.string ⟨#[103, 121, 116, 116, 106, 97]⟩)))⟩])
 (.seq (.region [vM 7 3,
 vP 8 (.slc 1 (.s 7) (some (vi 6)) none none),
 vM 9 0,
 vP 10 (.cvi .u32 (.s 9)),
 vN 11 35 [(.s 8), (.s 10)]])
 (.seq (.draw [vD (vM 12 3) 0,
 vD (vP 13 (.slc 1 (.s 12) (some (vi 10)) none none)) 1,
 vD (vM 14 3) 0,
 vD (vP 15 (.slc 1 (.s 14) none (some (vi 10)) none)) 4,
 vD (vN 16 16 [(.s 15)]) 12,
 ⟨vN 17 35 [(.s 13), (.s 16)], none, [], 31, false⟩])
 (.seq (.region [vM 18 3,
 vM 2 18])
 (.ret))))))
def k72 : Cd :=
  .seq (.region [vP 0 (.mv (.c (.slice none 0 0)))])
 (.seq (.region [vN 1 37 [(.c (.slice none 0 0))],
 vM 0 1])
 (.ret))
def k73 : Cd :=
  .seq (.region [vP 2 (.box 74 4 (.s 0)),
 vP 3 (.box 76 3 (.s 1)),
 vP 4 (.mv (.c (.bool false)))])
 (.seq (.region [vP 9 (.ld true 4 (.s 2)),
 vN 10 92 [(.s 9)],
 vM 8 10,
 vP 11 (.ex (.s 8) 0),
 vP 12 (.ex (.s 8) 1),
 vP 13 (.ex (.s 8) 2),
 vP 5 (.alloc 74 [(.slice none 0 0), (.slice none 0 0), (.slice none 0 0), (.slice none 0 0)]),
 vP 6 (.alloc 76 [(.slice none 0 0), (.int .i64 0), (.int .i64 0)]),
 ⟨none, none, .inl (.st 4 (.s 5) (.s 11))⟩,
 ⟨none, none, .inl (.st 3 (.s 6) (.s 12))⟩,
 vM 7 13])
 (.seq (.seq (.region [vM 14 7,
 vP 15 (vc .neq 14 0),
 vM 16 15,
 vU 16 17 (.fa (.s 6) 1),
 vU 16 18 (.ld false 1 (.s 17)),
 vU 16 19 (.fa (.s 3) 1),
 vU 16 20 (.ld false 1 (.s 19)),
 vU 16 21 (vb .neq 18 20),
 vP 22 (.pick (.s 16) (.c (.bool true)) (.s 21)),
 vM 23 22,
 vU 23 24 (.fa (.s 6) 2),
 vU 23 25 (.ld false 1 (.s 24)),
 vU 23 26 (.fa (.s 3) 2),
 vU 23 27 (.ld false 1 (.s 26)),
 vU 23 28 (vb .neq 25 27),
 vP 29 (.pick (.s 23) (.c (.bool true)) (.s 28)),
 vM 30 29,
 vU 30 31 (.fa (.s 6) 0),
 vU 30 32 (.ld true 1 (.s 31)),
 vU 30 33 (.fa (.s 3) 0),
 vU 30 34 (.ld true 1 (.s 33)),
 ⟨some (30, false), some 35, .inr (.fn 74 [(.s 32), (.s 34)])⟩,
 vU 30 36 (.not (.s 35)),
 vP 37 (.pick (.s 30) (.c (.bool true)) (.s 36))])
 (.cond (.s 37) (.seq (.region [vP 4 (.mv (.c (.bool false)))])
 (.ret))
 (.skip)))
 (.seq (.draw [vD (vF 38 6 1) 0,
 vD (vL 39 1 38) 1,
 vD (vF 40 5 0) 0,
 vD (vP 41 (.iaa 2 2 (.s 40) (.s 39))) 7,
 vD (vF 42 41 0) 15,
 vD (vL 43 1 42) 31,
 vD (vP 44 (.len (.s 43))) 63,
 vD (vF 45 6 1) 0,
 vD (vL 46 1 45) 128,
 vD (vF 47 2 0) 0,
 vD (vP 48 (.iaa 2 2 (.s 47) (.s 46))) 896,
 vD (vP 49 (.ld true 2 (.s 48))) 1920,
 vD (vN 50 76 [(.s 49)]) 3968,
 vD (vP 51 (vb .eql 44 50)) 8191,
 vD (vM 4 51) 16383])
 (.ret))))
def k74 : Cd :=
  .seq (.region [vP 2 (.box 45 1 (.s 0)),
 vP 3 (.box 45 1 (.s 1)),
 vP 4 (.mv (.c (.bool false)))])
 (.seq (.region [vF 5 2 0,
 vL 6 1 5,
 vF 7 3 0,
 vL 8 1 7,
 vN 9 93 [(.s 6), (.s 8)],
 vM 4 9])
 (.ret))
def k75l0 : Cd :=
  .seq (.region [vP 8 (vc .lss 7 2)])
 (.seq (.cond (.s 8) (.skip)
 (.exit 0))
 (.seq (.block 1 (.seq (.region [vM 9 7,
 vP 10 (.ixa true 2 2 (.s 6) (.s 7)),
 vP 4 (.alloc 71 [(.slice none 0 0), (.slice none 0 0)]),
 vM 3 9,
 ⟨none, none, .inl (.st 2 (.s 4) (.s 10))⟩])
 (.draw [vD (vM 11 3) 0,
 vD (vF 12 4 0) 0,
 vD (vL 13 1 12) 2,
 ⟨vN 14 94 [(.s 13)], none, [.av 4], 6, false⟩,
 vD (vF 15 4 1) 0,
 ⟨vL 16 1 15, some [], [.keep 4], 16, false⟩,
 ⟨vN 17 94 [(.s 16)], none, [], 62, false⟩,
 vD (vP 18 (.bld [(.slice none 0 0), (.slice none 0 0)] [(0, 1, (.s 14)), (1, 1, (.s 17))])) 126,
 vD (vF 19 1 0) 0,
 vD (vP 20 (.iaa 2 2 (.s 19) (.s 11))) 511,
 ⟨⟨none, none, .inl (.st 2 (.s 20) (.s 18))⟩, (some [.at 1]), [], 1023, false⟩])))
 (.region [vP 21 (vc .add 7 1),
 vM 7 21])))
def k75 : Cd :=
  .seq (.region [vP 1 (.box 74 4 (.s 0)),
 vP 2 (.alloc 74 [(.slice none 0 0), (.slice none 0 0), (.slice none 0 0), (.slice none 0 0)])])
 (.seq (.seq (.region [vF 5 1 0,
 vP 6 (.ld true 4 (.s 5)),
 vP 7 (.mv (vi 0))])
 (.block 0 (.loop k75l0)))
 (.seq (.region [vP 22 (.ld true 4 (.s 1)),
 ⟨none, none, .inl (.st 4 (.s 2) (.s 22))⟩])
 (.ret)))
def k76 : Cd :=
  .seq (.region [vP 1 (.box 71 2 (.s 0)),
 vP 2 (.mv (vi 0))])
 (.seq (.region [vF 3 1 0,
 vL 4 1 3,
 vP 5 (.len (.s 4)),
 vF 6 1 1,
 vL 7 1 6,
 vP 8 (.len (.s 7)),
 vP 9 (vb .add 5 8),
 vM 2 9])
 (.ret))
def k77 : Cd :=
  .seq (.region [vP 3 (.box 26 1 (.s 1)),
 vP 4 (.mv (.c .nilFunc))])
 (.seq (.region [vM 5 0,
 vP 6 (.mkf (.func 96) [] [(.s 3)]),
 vN 7 95 [(.s 5), (.s 6)],
 vM 4 7])
 (.ret))
def k78l0 : Cd :=
  .seq (.region [vP 9 (vb .lss 8 7)])
 (.seq (.cond (.s 9) (.skip)
 (.exit 0))
 (.seq (.block 1 (.seq (.region [vI 10 1 6 8,
 vL 11 1 10,
 vM 5 11])
 (.seq (.region [vM 12 5,
 vM 13 3,
 vP 14 (vb .neq 12 13)])
 (.cond (.s 14) (.seq (.region [vM 15 5,
 vM 2 15])
 (.ret))
 (.skip)))))
 (.region [vP 16 (vc .add 8 1),
 vM 8 16])))
def k78 : Cd :=
  .seq (.region [vP 2 (.mv (vi 0))])
 (.seq (.region [vP 3 (.mv (vi 0))])
 (.seq (.seq (.region [vM 6 0,
 vP 7 (.len (.s 6)),
 vP 8 (.mv (vi 0))])
 (.block 0 (.loop k78l0)))
 (.seq (.region [vM 17 3,
 vM 2 17])
 (.ret))))
def k79 : Cd :=
  .seq (.region [vP 4 (.mv (vi 0))])
 (.seq (.region [vM 7 0,
 vN 8 97 [(.s 7)],
 vM 5 8])
 (.seq (.region [vM 9 1,
 vN 10 97 [(.s 9)],
 vM 6 10])
 (.seq (.seq (.region [vM 11 5])
 (.cond (.s 11) (.seq (.seq (.region [vM 12 6])
 (.cond (.s 12) (.seq (.region [vP 4 (.mv (vi 0))])
 (.ret))
 (.skip)))
 (.seq (.region [vP 4 (.mv (.c (.int .i64 (-1))))])
 (.ret)))
 (.skip)))
 (.seq (.seq (.region [vM 13 6])
 (.cond (.s 13) (.seq (.region [vP 4 (.mv (vi 1))])
 (.ret))
 (.skip)))
 (.seq (.seq (.region [vM 14 0,
 vM 15 1,
 vP 16 (vb .lss 14 15)])
 (.cond (.s 16) (.seq (.region [vP 4 (.mv (.c (.int .i64 (-1))))])
 (.ret))
 (.skip)))
 (.seq (.seq (.region [vM 17 0,
 vM 18 1,
 vP 19 (vb .gtr 17 18)])
 (.cond (.s 19) (.seq (.region [vP 4 (.mv (vi 1))])
 (.ret))
 (.skip)))
 (.seq (.region [vP 4 (.mv (vi 0))])
 (.ret))))))))
def k80l0 : Cd :=
  .seq (.region [vP 12 (vb .lss 11 10)])
 (.seq (.cond (.s 12) (.skip)
 (.exit 0))
 (.seq (.block 1 (.seq (.region [vI 13 1 9 11,
 vL 14 1 13,
 vM 5 14])
 (.seq (.region [vM 15 3,
 vM 16 5,
 vP 17 (.len (.s 16)),
 vP 18 (vb .add 15 17),
 vM 3 18])
 (.seq (.region [vM 19 3,
 vP 20 (vc .lss 19 0)])
 (.cond (.s 20) (.region [⟨none, some 21, .inl (.mki 9 (.c (.string ⟨#[108, 101, 110, 32, 111, 117, 116, 32, 111, 102, 32, 114, 97, 110, 103, 101]⟩)))⟩,
 ⟨none, none, .inr (.pan (.s 21))⟩])
 (.skip))))))
 (.region [vP 22 (vc .add 11 1),
 vM 11 22])))
def k80l1 : Cd :=
  .seq (.region [vP 28 (vb .lss 27 26)])
 (.seq (.cond (.s 28) (.skip)
 (.exit 2))
 (.seq (.block 3 (.seq (.region [vI 29 1 25 27,
 vL 30 1 29,
 vM 8 30])
 (.region [vM 31 6,
 vM 32 8,
 vP 33 (.app 25 8 72 (.s 31) (.s 32)),
 vM 6 33])))
 (.region [vP 34 (vc .add 27 1),
 vM 27 34])))
def k80 : Cd :=
  .seq (.region [vP 2 (.mv (.c (.slice none 0 0)))])
 (.seq (.region [vP 3 (.mv (vi 0))])
 (.seq (.seq (.region [vM 9 0,
 vP 10 (.len (.s 9)),
 vP 11 (.mv (vi 0))])
 (.block 0 (.loop k80l0)))
 (.seq (.region [vM 23 3,
 vN 24 98 [(.c (.slice none 0 0)), (.s 23)],
 vM 6 24])
 (.seq (.seq (.region [vM 25 0,
 vP 26 (.len (.s 25)),
 vP 27 (.mv (vi 0))])
 (.block 2 (.loop k80l1)))
 (.seq (.region [vM 35 6,
 vM 2 35])
 (.ret))))))
def k81 : Cd :=
  .seq (.region [vM 5 0,
 vP 6 (.len (.s 5)),
 vM 4 6])
 (.region [vM 7 0,
 vM 8 4,
 vM 9 4,
 vP 10 (.cvi .u64 (.s 9)),
 vN 11 100 [(.s 10)],
 vM 12 1,
 vN 13 99 [(.s 7), (vi 0), (.s 8), (.s 11), (.s 12)]])
def k82 : Cd :=
  .seq (.region [vP 2 (.box 25 8 (.s 0)),
 vP 3 (.box 25 8 (.s 1)),
 vP 4 (.mv (vi 0))])
 (.seq (.region [vF 5 2 0,
 vP 6 (.ld true 2 (.s 5)),
 vF 7 3 0,
 vP 8 (.ld true 2 (.s 7)),
 vN 9 60 [(.s 6), (.s 8)],
 vM 4 9])
 (.ret))
def k83l0 : Cd :=
  .seq (.seq (.region [vM 29 5,
 vM 30 4,
 vP 31 (.len (.s 30)),
 vP 32 (vb .lss 29 31)])
 (.cond (.s 32) (.skip)
 (.exit 2)))
 (.seq (.block 3 (.seq (.draw [vD (vM 35 4) 0,
 vD (vM 36 5) 0,
 vD (vI 37 8 35 36) 3,
 vD (vP 38 (.ld true 8 (.s 37))) 7,
 vD (vM 39 4) 0,
 vD (vM 40 5) 0,
 vD (vP 41 (vc .sub 40 1)) 32,
 vD (vI 42 8 39 41) 112,
 vD (vP 43 (.ld true 8 (.s 42))) 240,
 vD (vP 44 (.eq true (.cells [.int, .int, .int, .int, .int, .int, .int, .str]) (.s 38) (.s 43))) 511])
 (.cond (.s 44) (.seq (.region [vM 45 0,
 vM 46 3,
 vM 47 4,
 vM 48 5,
 vI 49 8 47 48,
 vP 50 (.ld true 8 (.s 49)),
 vI 51 8 45 46,
 ⟨none, none, .inl (.st 8 (.s 51) (.s 50))⟩])
 (.region [vM 52 3,
 vP 53 (vc .add 52 1),
 vM 3 53]))
 (.skip))))
 (.region [vM 33 5,
 vP 34 (vc .add 33 1),
 vM 5 34]))
def k83l1 : Cd :=
  .seq (.seq (.region [vM 10 3,
 vM 11 0,
 vP 12 (.len (.s 11)),
 vP 13 (vb .lss 10 12)])
 (.cond (.s 13) (.skip)
 (.exit 0)))
 (.seq (.block 1 (.seq (.draw [vD (vM 16 0) 0,
 vD (vM 17 3) 0,
 vD (vI 18 8 16 17) 3,
 vD (vP 19 (.ld true 8 (.s 18))) 7,
 vD (vM 20 0) 0,
 vD (vM 21 3) 0,
 vD (vP 22 (vc .sub 21 1)) 32,
 vD (vI 23 8 20 22) 112,
 vD (vP 24 (.ld true 8 (.s 23))) 240,
 vD (vP 25 (.eq false (.cells [.int, .int, .int, .int, .int, .int, .int, .str]) (.s 19) (.s 24))) 511])
 (.cond (.s 25) (.seq (.region [vM 26 0,
 vM 27 3,
 vP 28 (.slc 8 (.s 26) (some (.s 27)) none none),
 vM 4 28])
 (.seq (.seq (.region [vP 5 (.mv (vi 1))])
 (.block 2 (.loop k83l0)))
 (.seq (.region [vM 54 0,
 vM 55 3,
 vP 56 (.slc 8 (.s 54) (some (.s 55)) none none),
 ⟨none, none, .inl (.clr [(.int .i64 0), (.int .i64 0), (.int .i64 0), (.int .i64 0), (.int .i64 0), (.int .i64 0), (.int .i64 0), (.string ⟨#[]⟩)] (.s 56))⟩])
 (.seq (.region [vM 57 0,
 vM 58 3,
 vP 59 (.slc 8 (.s 57) none (some (.s 58)) none),
 vM 2 59])
 (.ret)))))
 (.skip))))
 (.region [vM 14 3,
 vP 15 (vc .add 14 1),
 vM 3 15]))
def k83 : Cd :=
  .seq (.region [vP 2 (.mv (.c (.slice none 0 0)))])
 (.seq (.seq (.region [vM 6 0,
 vP 7 (.len (.s 6)),
 vP 8 (vc .lss 7 2)])
 (.cond (.s 8) (.seq (.region [vM 9 0,
 vM 2 9])
 (.ret))
 (.skip)))
 (.seq (.seq (.region [vP 3 (.mv (vi 1))])
 (.block 0 (.loop k83l1)))
 (.seq (.region [vM 60 0,
 vM 2 60])
 (.ret))))
def k84 : Cd :=
  .seq (.region [vP 2 (.box 94 2 (.s 0)),
 vP 3 (.box 25 8 (.s 1)),
 vP 4 (.mv (.c (.bool false)))])
 (.seq (.region [vP 5 (.ld true 2 (.s 2)),
 vP 6 (.ld true 8 (.s 3)),
 vP 7 (.bst 3 1 1 [(.int .i64 0)] [(0, (vi 7))]),
 vN 8 87 [(.s 5), (.s 6), (.s 7)],
 vP 9 (.len (.s 8)),
 vP 10 (vc .gtr 9 0),
 vM 4 10])
 (.ret))
def k85 : Cd :=
  .seq (.region [vP 2 (.box 94 2 (.s 0)),
 vP 3 (.box 25 8 (.s 1)),
 vP 4 (.mv (.c (.bool false)))])
 (.seq (.region [vP 6 (.ld true 2 (.s 2)),
 vP 7 (.ld true 8 (.s 3)),
 vP 8 (.bst 3 1 2 [(.int .i64 0)] [(0, (vi 8)), (1, (vi 9))]),
 vN 9 87 [(.s 6), (.s 7), (.s 8)],
 vM 5 9])
 (.seq (.region [vM 10 5,
 vP 11 (.len (.s 10)),
 vP 12 (vc .gtr 11 0),
 vM 13 12,
 vT 13 14 (.mv (.s 5)),
 ⟨some (13, true), some 15, .inr (.fn 89 [(.s 14), (.f 90)])⟩,
 vT 13 16 (.fd false 1 2 (.s 15)),
 vT 13 17 (vc .eql 16 8),
 vP 18 (.pick (.s 13) (.s 17) (.c (.bool false))),
 vM 4 18])
 (.ret)))
def k86l0 : Cd :=
  .seq (.region [vP 11 (vb .lss 10 9)])
 (.seq (.cond (.s 11) (.skip)
 (.exit 0))
 (.seq (.block 1 (.seq (.region [vI 12 8 8 10,
 vP 13 (.ld true 8 (.s 12)),
 ⟨none, some 7, .inl (.alloc 25 [(.int .i64 0), (.int .i64 0), (.int .i64 0), (.int .i64 0), (.int .i64 0), (.int .i64 0), (.int .i64 0), (.string ⟨#[]⟩)])⟩,
 ⟨none, none, .inl (.st 8 (.s 7) (.s 13))⟩])
 (.seq (.region [vM 14 1,
 vP 15 (.ld true 8 (.s 7)),
 ⟨none, some 16, .inr (.val false (.s 14) [(.s 15)])⟩])
 (.cond (.s 16) (.region [vM 17 5,
 vP 18 (.ld true 8 (.s 7)),
 ⟨none, some 19, .inl (.bs 25 8 1 [(.int .i64 0), (.int .i64 0), (.int .i64 0), (.int .i64 0), (.int .i64 0), (.int .i64 0), (.int .i64 0), (.string ⟨#[]⟩)] [(0, (.s 18))])⟩,
 vP 20 (.app 25 8 72 (.s 17) (.s 19)),
 vM 5 20])
 (.skip)))))
 (.region [vP 21 (vc .add 10 1),
 vM 10 21])))
def k86 : Cd :=
  .seq (.region [vP 4 (.mv (.c (.slice none 0 0)))])
 (.seq (.region [vP 5 (.mv (.c (.slice none 0 0)))])
 (.seq (.seq (.region [vM 8 0,
 vP 9 (.len (.s 8)),
 vP 10 (.mv (vi 0))])
 (.block 0 (.loop k86l0)))
 (.seq (.region [vM 22 5,
 vM 4 22])
 (.ret))))
def k87 : Cd :=
  .seq (.region [vP 3 (.box 94 2 (.s 0)),
 vP 4 (.box 25 8 (.s 1)),
 vP 5 (.box 38 1 (.s 2)),
 vP 6 (.mv (.c (.slice none 0 0)))])
 (.seq (.region [vF 7 3 0,
 vF 8 7 0,
 vL 9 1 8,
 vP 10 (.mkf (.func 101) [] [(.s 4), (.s 5), (.s 3)]),
 vN 11 86 [(.s 9), (.s 10)],
 vM 6 11])
 (.ret))
def k88 : Cd :=
  .seq (.region [vP 2 (.box 25 8 (.s 0)),
 vP 3 (.mv (.c (.bool false)))])
 (.seq (.region [vP 4 (.ld true 2 (.s 1)),
 vP 5 (.ld true 8 (.s 2)),
 vN 6 84 [(.s 4), (.s 5)],
 vP 7 (.not (.s 6)),
 vM 3 7])
 (.ret))
def k89l0 : Cd :=
  .seq (.seq (.region [vM 14 6,
 vM 15 0,
 vP 16 (.len (.s 15)),
 vP 17 (vb .lss 14 16)])
 (.cond (.s 17) (.skip)
 (.exit 0)))
 (.seq (.block 1 (.seq (.draw [vD (vM 20 1) 0,
 vD (vM 21 0) 0,
 vD (vM 22 6) 0,
 vD (vI 23 8 21 22) 6,
 vD (vP 24 (.ld true 8 (.s 23))) 14,
 vD (vP 25 (.ld true 8 (.s 5))) 0,
 ⟨⟨none, some 26, .inr (.val false (.s 20) [(.s 24), (.s 25)])⟩, some [], [], 63, false⟩,
 vD (vP 27 (vc .gtr 26 0)) 127])
 (.cond (.s 27) (.region [vM 28 0,
 vM 29 6,
 vI 30 8 28 29,
 vP 31 (.ld true 8 (.s 30)),
 ⟨none, none, .inl (.st 8 (.s 5) (.s 31))⟩])
 (.skip))))
 (.region [vM 18 6,
 vP 19 (vc .add 18 1),
 vM 6 19]))
end Go.Proofs.YtkbamkdgiglljaaGreat
