/- The small code of the functions of this program, as its own reader reads them: part C. -/
import Derived.Test.YtgbkdjlekfjkfaaGreatDoorCodeB
namespace Go.Proofs.YtgbkdjlekfjkfaaGreatDoor
open Go Go.Em
set_option maxRecDepth 100000
def k244 : Cd :=
  .seq (.region [vP 10 (.mv (vi 0)),
 vP 11 (.mv (vi 0))])
 (.seq (.seq (.draw [vD (vM 12 4) 0,
 vD (vM 13 0) 0,
 vD (vM 14 2) 0,
 vD (vI 15 2 13 14) 6,
 vD (vP 16 (.ld true 2 (.s 15))) 14,
 vD (vM 17 0) 0,
 vD (vM 18 1) 0,
 vD (vI 19 2 17 18) 96,
 vD (vP 20 (.ld true 2 (.s 19))) 224,
 ⟨⟨none, some 21, .inr (.val false (.s 12) [(.s 16), (.s 20)])⟩, some [], [], 511, false⟩,
 vD (vP 22 (vc .lss 21 0)) 1023])
 (.cond (.s 22) (.seq (.region [vM 23 3,
 vP 24 (.nc (.s 23)),
 vL 25 1 24,
 vP 26 (vc .add 25 1),
 vP 27 (.nc (.s 23)),
 ⟨none, none, .inl (.st 1 (.s 27) (.s 26))⟩])
 (.seq (.region [vM 28 2,
 vM 29 1,
 vM 10 28,
 vM 11 29])
 (.ret)))
 (.skip)))
 (.seq (.region [vM 30 1,
 vM 31 2,
 vM 10 30,
 vM 11 31])
 (.ret)))
def k245 : Cd :=
  .seq (.region [vP 10 (.mv (vi 0)),
 vP 11 (.mv (vi 0))])
 (.seq (.seq (.draw [vD (vM 12 4) 0,
 vD (vM 13 0) 0,
 vD (vM 14 2) 0,
 vD (vI 15 3 13 14) 6,
 vD (vP 16 (.ld true 3 (.s 15))) 14,
 vD (vM 17 0) 0,
 vD (vM 18 1) 0,
 vD (vI 19 3 17 18) 96,
 vD (vP 20 (.ld true 3 (.s 19))) 224,
 ⟨⟨none, some 21, .inr (.val false (.s 12) [(.s 16), (.s 20)])⟩, some [], [], 511, false⟩,
 vD (vP 22 (vc .lss 21 0)) 1023])
 (.cond (.s 22) (.seq (.region [vM 23 3,
 vP 24 (.nc (.s 23)),
 vL 25 1 24,
 vP 26 (vc .add 25 1),
 vP 27 (.nc (.s 23)),
 ⟨none, none, .inl (.st 1 (.s 27) (.s 26))⟩])
 (.seq (.region [vM 28 2,
 vM 29 1,
 vM 10 28,
 vM 11 29])
 (.ret)))
 (.skip)))
 (.seq (.region [vM 30 1,
 vM 31 2,
 vM 10 30,
 vM 11 31])
 (.ret)))
end Go.Proofs.YtgbkdjlekfjkfaaGreatDoor
