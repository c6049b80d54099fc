/- The small code of the functions of this program, as its own reader reads them: it is the program. -/
import Derived.Test.YtnfhgnbniajhoaaDoorProg
import Derived.Test.YtnfhgnbniajhoaaDoorCodeA
namespace Go.Proofs.YtnfhgnbniajhoaaDoor
open Go Go.Em
set_option maxRecDepth 100000
def c3 : FnCode := ⟨64, false, [(.tmp 2, false, 0)], k3⟩
def c6 : FnCode := ⟨74, false, [(.tmp 0, false, 0)], k6⟩
def c7 : FnCode := ⟨45, false, [(.cell 2 26, true, 6), (.tmp 3, false, 0)], k7⟩
def c8 : FnCode := ⟨68, false, [(.cell 2 26, true, 6), (.tmp 3, false, 0)], k8⟩
def c9 : FnCode := ⟨15, false, [(.tmp 4, false, 0)], k9⟩
def c10 : FnCode := ⟨15, false, [(.tmp 4, false, 0)], k10⟩
def c22 : FnCode := ⟨10, false, [(.tmp 0, false, 0)], k22⟩
def c23 : FnCode := ⟨24, false, [(.tmp 4, false, 0), (.tmp 5, false, 0)], k23⟩
def c24 : FnCode := ⟨26, false, [(.tmp 4, false, 0), (.tmp 5, false, 0)], k24⟩
def c25 : FnCode := ⟨59, false, [(.tmp 8, false, 0), (.tmp 9, false, 0)], k25⟩
def c26 : FnCode := ⟨38, false, [(.tmp 2, false, 0)], k26⟩
def c27 : FnCode := ⟨24, false, [(.cell 4 25, true, 2)], k27⟩
def c36 : FnCode := ⟨24, false, [(.tmp 4, false, 0), (.tmp 5, false, 0)], k36⟩
def c37 : FnCode := ⟨15, false, [(.tmp 6, false, 0)], k37⟩
def c39 : FnCode := ⟨20, false, [(.tmp 4, false, 0)], k39⟩
def c44 : FnCode := ⟨5, false, [(.cell 0 26, true, 6)], k44⟩
def c45 : FnCode := ⟨87, false, [(.cell 4 82, true, 164), (.tmp 5, false, 0)], k45⟩
def c46 : FnCode := ⟨6, false, [(.tmp 4, false, 0)], k46⟩
def c47 : FnCode := ⟨68, false, [(.cell 4 92, true, 10)], k47⟩
def c48 : FnCode := ⟨85, false, [(.tmp 2, false, 0)], k48⟩
def c49 : FnCode := ⟨20, false, [(.tmp 6, false, 0)], k49⟩
def c50 : FnCode := ⟨19, false, [(.tmp 6, false, 0)], k50⟩
def c51 : FnCode := ⟨12, false, [(.tmp 6, false, 0)], k51⟩
def c52 : FnCode := ⟨15, false, [(.cell 6 4, false, 1)], k52⟩
def c53 : FnCode := ⟨34, false, [(.tmp 2, false, 0)], k53⟩
def c57 : FnCode := ⟨75, false, [(.tmp 4, false, 0), (.tmp 5, false, 0)], k57⟩
def c59 : FnCode := ⟨19, false, [(.tmp 2, false, 0)], k59⟩
def c60 : FnCode := ⟨42, false, [(.tmp 4, false, 0)], k60⟩
def c61 : FnCode := ⟨7, false, [(.tmp 2, false, 0)], k61⟩
def c62 : FnCode := ⟨46, false, [], k62⟩
def c63 : FnCode := ⟨25, false, [(.tmp 4, false, 0)], k63⟩
def c64 : FnCode := ⟨30, true, [(.tmp 2, false, 0)], k64⟩
def c65 : FnCode := ⟨18, false, [(.tmp 2, false, 0)], k65⟩
def c66 : FnCode := ⟨44, false, [(.cell 4 110, true, 9)], k66⟩
def c67 : FnCode := ⟨10, false, [(.tmp 4, false, 0)], k67⟩
def c73 : FnCode := ⟨48, true, [(.tmp 4, false, 0)], k73⟩
def c74 : FnCode := ⟨54, false, [(.tmp 4, false, 0), (.tmp 5, false, 0)], k74⟩
def c75 : FnCode := ⟨9, false, [(.tmp 4, false, 0)], k75⟩
def c76 : FnCode := ⟨6, false, [(.tmp 2, false, 0)], k76⟩
def c77 : FnCode := ⟨49, false, [(.tmp 4, false, 0)], k77⟩
def c78 : FnCode := ⟨26, false, [(.tmp 2, false, 0), (.tmp 3, false, 0)], k78⟩
def c85 : FnCode := ⟨17, false, [(.tmp 4, false, 0)], k85⟩
def c91 : FnCode := ⟨30, false, [(.tmp 4, false, 0), (.tmp 5, false, 0)], k91⟩
def c92 : FnCode := ⟨6, false, [(.tmp 2, false, 0)], k92⟩
def c93 : FnCode := ⟨19, false, [(.tmp 4, false, 0)], k93⟩
def c94 : FnCode := ⟨26, false, [(.tmp 4, false, 0)], k94⟩
def c100 : FnCode := ⟨17, false, [(.tmp 4, false, 0), (.tmp 5, false, 0)], k100⟩
def c101 : FnCode := ⟨51, false, [(.tmp 4, false, 0), (.tmp 5, false, 0)], k101⟩
def codes : List (Nat × FnCode) := [(3, c3), (6, c6), (7, c7), (8, c8), (9, c9), (10, c10), (22, c22), (23, c23), (24, c24), (25, c25), (26, c26), (27, c27), (36, c36), (37, c37), (39, c39), (44, c44), (45, c45), (46, c46), (47, c47), (48, c48), (49, c49), (50, c50), (51, c51), (52, c52), (53, c53), (57, c57), (59, c59), (60, c60), (61, c61), (62, c62), (63, c63), (64, c64), (65, c65), (66, c66), (67, c67), (73, c73), (74, c74), (75, c75), (76, c76), (77, c77), (78, c78), (85, c85), (91, c91), (92, c92), (93, c93), (94, c94), (100, c100), (101, c101)]
def codeAt (f : Nat) : Option FnCode := (bif Nat.blt f 53 then (bif Nat.blt f 36 then (bif Nat.blt f 22 then (bif Nat.blt f 8 then (bif Nat.blt f 6 then (bif Nat.beq f 3 then some c3 else none) else (bif Nat.blt f 7 then (bif Nat.beq f 6 then some c6 else none) else (bif Nat.beq f 7 then some c7 else none))) else (bif Nat.blt f 9 then (bif Nat.beq f 8 then some c8 else none) else (bif Nat.blt f 10 then (bif Nat.beq f 9 then some c9 else none) else (bif Nat.beq f 10 then some c10 else none)))) else (bif Nat.blt f 25 then (bif Nat.blt f 23 then (bif Nat.beq f 22 then some c22 else none) else (bif Nat.blt f 24 then (bif Nat.beq f 23 then some c23 else none) else (bif Nat.beq f 24 then some c24 else none))) else (bif Nat.blt f 26 then (bif Nat.beq f 25 then some c25 else none) else (bif Nat.blt f 27 then (bif Nat.beq f 26 then some c26 else none) else (bif Nat.beq f 27 then some c27 else none))))) else (bif Nat.blt f 47 then (bif Nat.blt f 44 then (bif Nat.blt f 37 then (bif Nat.beq f 36 then some c36 else none) else (bif Nat.blt f 39 then (bif Nat.beq f 37 then some c37 else none) else (bif Nat.beq f 39 then some c39 else none))) else (bif Nat.blt f 45 then (bif Nat.beq f 44 then some c44 else none) else (bif Nat.blt f 46 then (bif Nat.beq f 45 then some c45 else none) else (bif Nat.beq f 46 then some c46 else none)))) else (bif Nat.blt f 50 then (bif Nat.blt f 48 then (bif Nat.beq f 47 then some c47 else none) else (bif Nat.blt f 49 then (bif Nat.beq f 48 then some c48 else none) else (bif Nat.beq f 49 then some c49 else none))) else (bif Nat.blt f 51 then (bif Nat.beq f 50 then some c50 else none) else (bif Nat.blt f 52 then (bif Nat.beq f 51 then some c51 else none) else (bif Nat.beq f 52 then some c52 else none)))))) else (bif Nat.blt f 74 then (bif Nat.blt f 63 then (bif Nat.blt f 60 then (bif Nat.blt f 57 then (bif Nat.beq f 53 then some c53 else none) else (bif Nat.blt f 59 then (bif Nat.beq f 57 then some c57 else none) else (bif Nat.beq f 59 then some c59 else none))) else (bif Nat.blt f 61 then (bif Nat.beq f 60 then some c60 else none) else (bif Nat.blt f 62 then (bif Nat.beq f 61 then some c61 else none) else (bif Nat.beq f 62 then some c62 else none)))) else (bif Nat.blt f 66 then (bif Nat.blt f 64 then (bif Nat.beq f 63 then some c63 else none) else (bif Nat.blt f 65 then (bif Nat.beq f 64 then some c64 else none) else (bif Nat.beq f 65 then some c65 else none))) else (bif Nat.blt f 67 then (bif Nat.beq f 66 then some c66 else none) else (bif Nat.blt f 73 then (bif Nat.beq f 67 then some c67 else none) else (bif Nat.beq f 73 then some c73 else none))))) else (bif Nat.blt f 91 then (bif Nat.blt f 77 then (bif Nat.blt f 75 then (bif Nat.beq f 74 then some c74 else none) else (bif Nat.blt f 76 then (bif Nat.beq f 75 then some c75 else none) else (bif Nat.beq f 76 then some c76 else none))) else (bif Nat.blt f 78 then (bif Nat.beq f 77 then some c77 else none) else (bif Nat.blt f 85 then (bif Nat.beq f 78 then some c78 else none) else (bif Nat.beq f 85 then some c85 else none)))) else (bif Nat.blt f 94 then (bif Nat.blt f 92 then (bif Nat.beq f 91 then some c91 else none) else (bif Nat.blt f 93 then (bif Nat.beq f 92 then some c92 else none) else (bif Nat.beq f 93 then some c93 else none))) else (bif Nat.blt f 100 then (bif Nat.beq f 94 then some c94 else none) else (bif Nat.blt f 101 then (bif Nat.beq f 100 then some c100 else none) else (bif Nat.beq f 101 then some c101 else none)))))))
theorem kc3 : codeOf Tryd.prog 3 = some (64, [(.tmp 2, false, 0)], k3) := by kernel_rfl
theorem kc6 : codeOf Tryd.prog 6 = some (74, [(.tmp 0, false, 0)], k6) := by kernel_rfl
theorem kc7 : codeOf Tryd.prog 7 = some (45, [(.cell 2 26, true, 6), (.tmp 3, false, 0)], k7) := by kernel_rfl
theorem kc8 : codeOf Tryd.prog 8 = some (68, [(.cell 2 26, true, 6), (.tmp 3, false, 0)], k8) := by kernel_rfl
theorem kc9 : codeOf Tryd.prog 9 = some (15, [(.tmp 4, false, 0)], k9) := by kernel_rfl
theorem kc10 : codeOf Tryd.prog 10 = some (15, [(.tmp 4, false, 0)], k10) := by kernel_rfl
theorem kc22 : codeOf Tryd.prog 22 = some (10, [(.tmp 0, false, 0)], k22) := by kernel_rfl
theorem kc23 : codeOf Tryd.prog 23 = some (24, [(.tmp 4, false, 0), (.tmp 5, false, 0)], k23) := by kernel_rfl
theorem kc24 : codeOf Tryd.prog 24 = some (26, [(.tmp 4, false, 0), (.tmp 5, false, 0)], k24) := by kernel_rfl
theorem kc25 : codeOf Tryd.prog 25 = some (59, [(.tmp 8, false, 0), (.tmp 9, false, 0)], k25) := by kernel_rfl
theorem kc26 : codeOf Tryd.prog 26 = some (38, [(.tmp 2, false, 0)], k26) := by kernel_rfl
theorem kc27 : codeOf Tryd.prog 27 = some (24, [(.cell 4 25, true, 2)], k27) := by kernel_rfl
theorem kc36 : codeOf Tryd.prog 36 = some (24, [(.tmp 4, false, 0), (.tmp 5, false, 0)], k36) := by kernel_rfl
theorem kc37 : codeOf Tryd.prog 37 = some (15, [(.tmp 6, false, 0)], k37) := by kernel_rfl
theorem kc39 : codeOf Tryd.prog 39 = some (20, [(.tmp 4, false, 0)], k39) := by kernel_rfl
theorem kc44 : codeOf Tryd.prog 44 = some (5, [(.cell 0 26, true, 6)], k44) := by kernel_rfl
theorem kc45 : codeOf Tryd.prog 45 = some (87, [(.cell 4 82, true, 164), (.tmp 5, false, 0)], k45) := by kernel_rfl
theorem kc46 : codeOf Tryd.prog 46 = some (6, [(.tmp 4, false, 0)], k46) := by kernel_rfl
theorem kc47 : codeOf Tryd.prog 47 = some (68, [(.cell 4 92, true, 10)], k47) := by kernel_rfl
theorem kc48 : codeOf Tryd.prog 48 = some (85, [(.tmp 2, false, 0)], k48) := by kernel_rfl
theorem kc49 : codeOf Tryd.prog 49 = some (20, [(.tmp 6, false, 0)], k49) := by kernel_rfl
theorem kc50 : codeOf Tryd.prog 50 = some (19, [(.tmp 6, false, 0)], k50) := by kernel_rfl
theorem kc51 : codeOf Tryd.prog 51 = some (12, [(.tmp 6, false, 0)], k51) := by kernel_rfl
theorem kc52 : codeOf Tryd.prog 52 = some (15, [(.cell 6 4, false, 1)], k52) := by kernel_rfl
theorem kc53 : codeOf Tryd.prog 53 = some (34, [(.tmp 2, false, 0)], k53) := by kernel_rfl
theorem kc57 : codeOf Tryd.prog 57 = some (75, [(.tmp 4, false, 0), (.tmp 5, false, 0)], k57) := by kernel_rfl
theorem kc59 : codeOf Tryd.prog 59 = some (19, [(.tmp 2, false, 0)], k59) := by kernel_rfl
theorem kc60 : codeOf Tryd.prog 60 = some (42, [(.tmp 4, false, 0)], k60) := by kernel_rfl
theorem kc61 : codeOf Tryd.prog 61 = some (7, [(.tmp 2, false, 0)], k61) := by kernel_rfl
theorem kc62 : codeOf Tryd.prog 62 = some (46, [], k62) := by kernel_rfl
theorem kc63 : codeOf Tryd.prog 63 = some (25, [(.tmp 4, false, 0)], k63) := by kernel_rfl
theorem kc64 : codeOf Tryd.prog 64 = some (30, [(.tmp 2, false, 0)], k64) := by kernel_rfl
theorem kc65 : codeOf Tryd.prog 65 = some (18, [(.tmp 2, false, 0)], k65) := by kernel_rfl
theorem kc66 : codeOf Tryd.prog 66 = some (44, [(.cell 4 110, true, 9)], k66) := by kernel_rfl
theorem kc67 : codeOf Tryd.prog 67 = some (10, [(.tmp 4, false, 0)], k67) := by kernel_rfl
theorem kc73 : codeOf Tryd.prog 73 = some (48, [(.tmp 4, false, 0)], k73) := by kernel_rfl
theorem kc74 : codeOf Tryd.prog 74 = some (54, [(.tmp 4, false, 0), (.tmp 5, false, 0)], k74) := by kernel_rfl
theorem kc75 : codeOf Tryd.prog 75 = some (9, [(.tmp 4, false, 0)], k75) := by kernel_rfl
theorem kc76 : codeOf Tryd.prog 76 = some (6, [(.tmp 2, false, 0)], k76) := by kernel_rfl
theorem kc77 : codeOf Tryd.prog 77 = some (49, [(.tmp 4, false, 0)], k77) := by kernel_rfl
theorem kc78 : codeOf Tryd.prog 78 = some (26, [(.tmp 2, false, 0), (.tmp 3, false, 0)], k78) := by kernel_rfl
theorem kc85 : codeOf Tryd.prog 85 = some (17, [(.tmp 4, false, 0)], k85) := by kernel_rfl
theorem kc91 : codeOf Tryd.prog 91 = some (30, [(.tmp 4, false, 0), (.tmp 5, false, 0)], k91) := by kernel_rfl
theorem kc92 : codeOf Tryd.prog 92 = some (6, [(.tmp 2, false, 0)], k92) := by kernel_rfl
theorem kc93 : codeOf Tryd.prog 93 = some (19, [(.tmp 4, false, 0)], k93) := by kernel_rfl
theorem kc94 : codeOf Tryd.prog 94 = some (26, [(.tmp 4, false, 0)], k94) := by kernel_rfl
theorem kc100 : codeOf Tryd.prog 100 = some (17, [(.tmp 4, false, 0), (.tmp 5, false, 0)], k100) := by kernel_rfl
theorem kc101 : codeOf Tryd.prog 101 = some (51, [(.tmp 4, false, 0), (.tmp 5, false, 0)], k101) := by kernel_rfl
end Go.Proofs.YtnfhgnbniajhoaaDoor
