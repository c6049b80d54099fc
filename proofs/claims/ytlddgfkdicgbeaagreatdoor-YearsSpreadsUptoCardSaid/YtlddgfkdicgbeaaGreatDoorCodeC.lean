/- The small code of the functions of this program, as its own reader reads them: part C. -/
import Derived.Test.YtlddgfkdicgbeaaGreatDoorCodeB
namespace Go.Proofs.YtlddgfkdicgbeaaGreatDoor
open Go Go.Em
set_option maxRecDepth 100000
def k162l0 : Cd :=
  .block 1 (.seq (.region [vM 13 10,
 vP 14 (.bin .mul (vi 2) (.s 13)),
 vP 15 (vc .add 14 1),
 vM 11 15])
 (.seq (.seq (.region [vM 16 11,
 vM 17 2,
 vP 18 (vb .geq 16 17)])
 (.cond (.s 18) (.exit 0)
 (.skip)))
 (.seq (.seq (.draw [vD (vM 19 11) 0,
 vD (vP 20 (vc .add 19 1)) 1,
 vD (vM 21 2) 0,
 vD (vP 22 (vb .lss 20 21)) 7,
 vD (vM 23 22) 15,
 vD (vT 23 24 (.mv (.s 4))) 31,
 vD (vT 23 25 (.mv (.s 0))) 31,
 vD (vT 23 26 (.mv (.s 3))) 31,
 vD (vT 23 27 (.mv (.s 11))) 31,
 vD (vT 23 28 (vb .add 26 27)) 415,
 vD (vT 23 29 (.ias 2 (.s 25) (.s 28))) 991,
 vD (vT 23 30 (.ld true 2 (.s 29))) 2015,
 vD (vT 23 31 (.mv (.s 0))) 31,
 vD (vT 23 32 (.mv (.s 3))) 31,
 vD (vT 23 33 (.mv (.s 11))) 31,
 vD (vT 23 34 (vb .add 32 33)) 24607,
 vD (vT 23 35 (vc .add 34 1)) 57375,
 vD (vT 23 36 (.ias 2 (.s 31) (.s 35))) 127007,
 vD (vT 23 37 (.ld true 2 (.s 36))) 258079,
 ⟨⟨some (23, true), some 38, .inr (.val true (.s 24) [(.s 30), (.s 37)])⟩, some [], [], 524287, false⟩,
 vD (vT 23 39 (vc .lss 38 0)) 1048575,
 vD (vP 40 (.pick (.s 23) (.s 39) (.c (.bool false)))) 2097151])
 (.cond (.s 40) (.region [vM 41 11,
 vP 42 (vc .add 41 1),
 vM 11 42])
 (.skip)))
 (.seq (.seq (.draw [vD (vM 43 4) 0,
 vD (vM 44 0) 0,
 vD (vM 45 3) 0,
 vD (vM 46 10) 0,
 vD (vP 47 (vb .add 45 46)) 12,
 vD (vI 48 2 44 47) 30,
 vD (vP 49 (.ld true 2 (.s 48))) 62,
 vD (vM 50 0) 0,
 vD (vM 51 3) 0,
 vD (vM 52 11) 0,
 vD (vP 53 (vb .add 51 52)) 768,
 vD (vI 54 2 50 53) 1920,
 vD (vP 55 (.ld true 2 (.s 54))) 3968,
 ⟨⟨none, some 56, .inr (.val false (.s 43) [(.s 49), (.s 55)])⟩, some [], [], 8191, false⟩,
 vD (vP 57 (vc .lss 56 0)) 16383,
 vD (vP 58 (.not (.s 57))) 32767])
 (.cond (.s 58) (.ret)
 (.skip)))
 (.seq (.draw [vD (vM 59 0) 0,
 vD (vM 60 3) 0,
 vD (vM 61 10) 0,
 vD (vP 62 (vb .add 60 61)) 6,
 vD (vM 63 0) 0,
 vD (vM 64 3) 0,
 vD (vM 65 11) 0,
 vD (vP 66 (vb .add 64 65)) 96,
 vD (vM 67 0) 0,
 vD (vM 68 3) 0,
 vD (vM 69 11) 0,
 vD (vP 70 (vb .add 68 69)) 1536,
 vD (vI 71 2 67 70) 3840,
 vD (vP 72 (.ld true 2 (.s 71))) 7936,
 vD (vM 73 0) 0,
 vD (vM 74 3) 0,
 vD (vM 75 10) 0,
 vD (vP 76 (vb .add 74 75)) 98304,
 vD (vI 77 2 73 76) 245760,
 vD (vP 78 (.ld true 2 (.s 77))) 507904,
 vD (vI 79 2 59 62) 1048335,
 ⟨⟨none, none, .inl (.st 2 (.s 79) (.s 72))⟩, (some [.at 0]), [], 2096911, false⟩,
 vD (vI 80 2 63 66) 4194303,
 ⟨⟨none, none, .inl (.st 2 (.s 80) (.s 78))⟩, (some [.at 0]), [], 8388607, false⟩])
 (.region [vM 81 11,
 vM 10 81]))))))
def k162 : Cd :=
  .seq (.region [vM 12 1,
 vM 10 12])
 (.block 0 (.loop k162l0))
def k163 : Cd :=
  .seq (.region [vP 8 (.mv (vi 0))])
 (.seq (.region [vM 9 0,
 vM 10 1,
 vP 11 (vc .sub 10 1),
 vM 12 1,
 vM 13 1,
 vP 14 (vc .add 13 1),
 vM 15 2,
 vM 16 3,
 vN 17 164 [(.s 9), (.s 11), (.s 12), (.s 14), (.s 15), (.s 16)],
 vM 8 17])
 (.ret))
def k164 : Cd :=
  .seq (.region [vP 12 (.mv (vi 0))])
 (.seq (.region [vM 14 0,
 vM 15 1,
 vM 16 2,
 vM 17 4,
 vM 18 5,
 vN 19 165 [(.s 14), (.s 15), (.s 16), (.s 17), (.s 18)],
 vM 13 19,
 vP 20 (.ex (.s 13) 0),
 vP 21 (.ex (.s 13) 1),
 vM 1 20,
 vM 2 21])
 (.seq (.region [vM 23 0,
 vM 24 2,
 vM 25 3,
 vM 26 4,
 vM 27 5,
 vN 28 165 [(.s 23), (.s 24), (.s 25), (.s 26), (.s 27)],
 vM 22 28,
 vP 29 (.ex (.s 22) 0),
 vP 30 (.ex (.s 22) 1),
 vM 2 29,
 vM 3 30])
 (.seq (.region [vM 32 0,
 vM 33 1,
 vM 34 2,
 vM 35 4,
 vM 36 5,
 vN 37 165 [(.s 32), (.s 33), (.s 34), (.s 35), (.s 36)],
 vM 31 37,
 vP 38 (.ex (.s 31) 0),
 vP 39 (.ex (.s 31) 1),
 vM 1 38,
 vM 2 39])
 (.seq (.region [vM 40 2,
 vM 12 40])
 (.ret)))))
def k165 : Cd :=
  .seq (.region [vP 10 (.mv (vi 0)),
 vP 11 (.mv (vi 0))])
 (.seq (.seq (.draw [vD (vM 12 4) 0,
 vD (vM 13 0) 0,
 vD (vM 14 2) 0,
 vD (vI 15 2 13 14) 6,
 vD (vP 16 (.ld true 2 (.s 15))) 14,
 vD (vM 17 0) 0,
 vD (vM 18 1) 0,
 vD (vI 19 2 17 18) 96,
 vD (vP 20 (.ld true 2 (.s 19))) 224,
 ⟨⟨none, some 21, .inr (.val false (.s 12) [(.s 16), (.s 20)])⟩, some [], [], 511, false⟩,
 vD (vP 22 (vc .lss 21 0)) 1023])
 (.cond (.s 22) (.seq (.region [vM 23 3,
 vP 24 (.nc (.s 23)),
 vL 25 1 24,
 vP 26 (vc .add 25 1),
 vP 27 (.nc (.s 23)),
 ⟨none, none, .inl (.st 1 (.s 27) (.s 26))⟩])
 (.seq (.region [vM 28 2,
 vM 29 1,
 vM 10 28,
 vM 11 29])
 (.ret)))
 (.skip)))
 (.seq (.region [vM 30 1,
 vM 31 2,
 vM 10 30,
 vM 11 31])
 (.ret)))
end Go.Proofs.YtlddgfkdicgbeaaGreatDoor
