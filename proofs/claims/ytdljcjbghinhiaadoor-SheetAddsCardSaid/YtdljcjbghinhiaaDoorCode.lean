/- The small code of the functions of this program, as its own reader reads them: it is the program. -/
import Derived.Test.YtdljcjbghinhiaaDoorProg
import Derived.Test.YtdljcjbghinhiaaDoorCodeA
namespace Go.Proofs.YtdljcjbghinhiaaDoor
open Go Go.Em
set_option maxRecDepth 100000
def c3 : FnCode := ⟨164, false, [(.tmp 6, false, 0)], k3⟩
def c4 : FnCode := ⟨200, false, [(.tmp 4, false, 0)], k4⟩
def c6 : FnCode := ⟨87, false, [(.tmp 4, false, 0)], k6⟩
def c8 : FnCode := ⟨81, false, [(.tmp 0, false, 0)], k8⟩
def c9 : FnCode := ⟨8, false, [(.tmp 2, false, 0)], k9⟩
def c10 : FnCode := ⟨33, false, [(.tmp 2, false, 0), (.tmp 3, false, 0), (.tmp 4, false, 0)], k10⟩
def c11 : FnCode := ⟨33, false, [(.tmp 2, false, 0), (.tmp 3, false, 0)], k11⟩
def c12 : FnCode := ⟨51, false, [(.tmp 4, false, 0), (.tmp 5, false, 0)], k12⟩
def c13 : FnCode := ⟨85, false, [(.tmp 4, false, 0)], k13⟩
def c14 : FnCode := ⟨8, false, [(.cell 2 36, true, 4)], k14⟩
def c15 : FnCode := ⟨25, false, [(.tmp 2, false, 0)], k15⟩
def c16 : FnCode := ⟨53, false, [(.cell 6 41, true, 4), (.tmp 7, false, 0)], k16⟩
def c17 : FnCode := ⟨12, false, [(.tmp 4, false, 0)], k17⟩
def c22 : FnCode := ⟨36, false, [(.cell 6 36, true, 4), (.tmp 7, false, 0)], k22⟩
def c23 : FnCode := ⟨48, false, [(.cell 2 26, false, 1)], k23⟩
def c24 : FnCode := ⟨31, false, [(.tmp 4, false, 0)], k24⟩
def c25 : FnCode := ⟨47, false, [(.tmp 2, false, 0)], k25⟩
def c26 : FnCode := ⟨31, false, [(.tmp 4, false, 0)], k26⟩
def c29 : FnCode := ⟨11, false, [(.cell 0 36, true, 4)], k29⟩
def c30 : FnCode := ⟨19, false, [(.cell 2 36, true, 4), (.cell 3 3, false, 1), (.cell 4 26, false, 1)], k30⟩
def c31 : FnCode := ⟨18, false, [(.tmp 4, false, 0)], k31⟩
def c32 : FnCode := ⟨41, false, [(.tmp 2, false, 0), (.tmp 3, false, 0)], k32⟩
def c33 : FnCode := ⟨17, false, [(.tmp 2, false, 0), (.tmp 3, false, 0)], k33⟩
def c34 : FnCode := ⟨17, false, [(.tmp 2, false, 0)], k34⟩
def c35 : FnCode := ⟨30, false, [(.tmp 6, false, 0)], k35⟩
def c36 : FnCode := ⟨20, false, [(.tmp 4, false, 0)], k36⟩
def c37 : FnCode := ⟨11, false, [(.tmp 2, false, 0)], k37⟩
def c38 : FnCode := ⟨15, false, [(.tmp 6, false, 0)], k38⟩
def c39 : FnCode := ⟨18, false, [(.tmp 4, false, 0)], k39⟩
def c40 : FnCode := ⟨4, false, [(.tmp 2, false, 0)], k40⟩
def c41 : FnCode := ⟨23, false, [(.tmp 6, false, 0)], k41⟩
def c42 : FnCode := ⟨37, false, [(.tmp 6, false, 0), (.tmp 7, false, 0)], k42⟩
def c44 : FnCode := ⟨8, false, [(.tmp 2, false, 0)], k44⟩
def c45 : FnCode := ⟨21, false, [(.tmp 4, false, 0)], k45⟩
def c47 : FnCode := ⟨3, false, [(.tmp 0, false, 0)], k47⟩
def c48 : FnCode := ⟨20, false, [(.cell 4 71, true, 7)], k48⟩
def c52 : FnCode := ⟨13, false, [], k52⟩
def c53 : FnCode := ⟨42, false, [(.cell 2 36, true, 4)], k53⟩
def c54 : FnCode := ⟨9, false, [(.tmp 4, false, 0)], k54⟩
def c55 : FnCode := ⟨5, false, [(.tmp 2, false, 0)], k55⟩
def c56 : FnCode := ⟨19, false, [(.tmp 4, false, 0)], k56⟩
def c57 : FnCode := ⟨5, false, [(.tmp 2, false, 0)], k57⟩
def c58 : FnCode := ⟨26, false, [(.tmp 4, false, 0)], k58⟩
def c59 : FnCode := ⟨27, false, [], k59⟩
def c60 : FnCode := ⟨13, false, [(.tmp 2, false, 0), (.tmp 3, false, 0)], k60⟩
def c61 : FnCode := ⟨19, false, [(.tmp 4, false, 0)], k61⟩
def c63 : FnCode := ⟨12, false, [(.cell 2 71, true, 7)], k63⟩
def c64 : FnCode := ⟨15, false, [(.cell 2 71, true, 7)], k64⟩
def c65 : FnCode := ⟨5, false, [(.tmp 2, false, 0)], k65⟩
def c66 : FnCode := ⟨17, false, [(.cell 2 71, true, 7)], k66⟩
def c67 : FnCode := ⟨14, false, [(.cell 2 71, true, 7)], k67⟩
def c68 : FnCode := ⟨14, false, [(.cell 2 71, true, 7)], k68⟩
def c69 : FnCode := ⟨20, false, [(.cell 2 71, true, 7)], k69⟩
def c72 : FnCode := ⟨4, true, [(.tmp 2, false, 0)], k72⟩
def c73 : FnCode := ⟨5, false, [(.tmp 2, false, 0)], k73⟩
def c74 : FnCode := ⟨8, false, [(.tmp 4, false, 0)], k74⟩
def c75 : FnCode := ⟨47, false, [(.cell 4 80, true, 3)], k75⟩
def c76 : FnCode := ⟨44, false, [(.cell 4 36, true, 4)], k76⟩
def c77 : FnCode := ⟨19, false, [(.tmp 4, false, 0)], k77⟩
def c79 : FnCode := ⟨25, false, [], k79⟩
def c80 : FnCode := ⟨8, false, [(.tmp 4, false, 0)], k80⟩
def c81 : FnCode := ⟨65, false, [(.tmp 4, false, 0)], k81⟩
def c82 : FnCode := ⟨5, false, [(.tmp 2, false, 0)], k82⟩
def c83 : FnCode := ⟨16, false, [(.tmp 4, false, 0)], k83⟩
def c84 : FnCode := ⟨45, false, [(.tmp 4, false, 0)], k84⟩
def c88 : FnCode := ⟨8, false, [(.tmp 4, false, 0)], k88⟩
def c89 : FnCode := ⟨21, false, [(.tmp 4, false, 0)], k89⟩
def codes : List (Nat × FnCode) := [(3, c3), (4, c4), (6, c6), (8, c8), (9, c9), (10, c10), (11, c11), (12, c12), (13, c13), (14, c14), (15, c15), (16, c16), (17, c17), (22, c22), (23, c23), (24, c24), (25, c25), (26, c26), (29, c29), (30, c30), (31, c31), (32, c32), (33, c33), (34, c34), (35, c35), (36, c36), (37, c37), (38, c38), (39, c39), (40, c40), (41, c41), (42, c42), (44, c44), (45, c45), (47, c47), (48, c48), (52, c52), (53, c53), (54, c54), (55, c55), (56, c56), (57, c57), (58, c58), (59, c59), (60, c60), (61, c61), (63, c63), (64, c64), (65, c65), (66, c66), (67, c67), (68, c68), (69, c69), (72, c72), (73, c73), (74, c74), (75, c75), (76, c76), (77, c77), (79, c79), (80, c80), (81, c81), (82, c82), (83, c83), (84, c84), (88, c88), (89, c89)]
def codeAt (f : Nat) : Option FnCode := (bif Nat.blt f 45 then (bif Nat.blt f 25 then (bif Nat.blt f 13 then (bif Nat.blt f 9 then (bif Nat.blt f 6 then (bif Nat.blt f 4 then (bif Nat.beq f 3 then some c3 else none) else (bif Nat.beq f 4 then some c4 else none)) else (bif Nat.blt f 8 then (bif Nat.beq f 6 then some c6 else none) else (bif Nat.beq f 8 then some c8 else none))) else (bif Nat.blt f 11 then (bif Nat.blt f 10 then (bif Nat.beq f 9 then some c9 else none) else (bif Nat.beq f 10 then some c10 else none)) else (bif Nat.blt f 12 then (bif Nat.beq f 11 then some c11 else none) else (bif Nat.beq f 12 then some c12 else none)))) else (bif Nat.blt f 17 then (bif Nat.blt f 15 then (bif Nat.blt f 14 then (bif Nat.beq f 13 then some c13 else none) else (bif Nat.beq f 14 then some c14 else none)) else (bif Nat.blt f 16 then (bif Nat.beq f 15 then some c15 else none) else (bif Nat.beq f 16 then some c16 else none))) else (bif Nat.blt f 23 then (bif Nat.blt f 22 then (bif Nat.beq f 17 then some c17 else none) else (bif Nat.beq f 22 then some c22 else none)) else (bif Nat.blt f 24 then (bif Nat.beq f 23 then some c23 else none) else (bif Nat.beq f 24 then some c24 else none))))) else (bif Nat.blt f 35 then (bif Nat.blt f 31 then (bif Nat.blt f 29 then (bif Nat.blt f 26 then (bif Nat.beq f 25 then some c25 else none) else (bif Nat.beq f 26 then some c26 else none)) else (bif Nat.blt f 30 then (bif Nat.beq f 29 then some c29 else none) else (bif Nat.beq f 30 then some c30 else none))) else (bif Nat.blt f 33 then (bif Nat.blt f 32 then (bif Nat.beq f 31 then some c31 else none) else (bif Nat.beq f 32 then some c32 else none)) else (bif Nat.blt f 34 then (bif Nat.beq f 33 then some c33 else none) else (bif Nat.beq f 34 then some c34 else none)))) else (bif Nat.blt f 39 then (bif Nat.blt f 37 then (bif Nat.blt f 36 then (bif Nat.beq f 35 then some c35 else none) else (bif Nat.beq f 36 then some c36 else none)) else (bif Nat.blt f 38 then (bif Nat.beq f 37 then some c37 else none) else (bif Nat.beq f 38 then some c38 else none))) else (bif Nat.blt f 41 then (bif Nat.blt f 40 then (bif Nat.beq f 39 then some c39 else none) else (bif Nat.beq f 40 then some c40 else none)) else (bif Nat.blt f 42 then (bif Nat.beq f 41 then some c41 else none) else (bif Nat.blt f 44 then (bif Nat.beq f 42 then some c42 else none) else (bif Nat.beq f 44 then some c44 else none))))))) else (bif Nat.blt f 67 then (bif Nat.blt f 57 then (bif Nat.blt f 53 then (bif Nat.blt f 48 then (bif Nat.blt f 47 then (bif Nat.beq f 45 then some c45 else none) else (bif Nat.beq f 47 then some c47 else none)) else (bif Nat.blt f 52 then (bif Nat.beq f 48 then some c48 else none) else (bif Nat.beq f 52 then some c52 else none))) else (bif Nat.blt f 55 then (bif Nat.blt f 54 then (bif Nat.beq f 53 then some c53 else none) else (bif Nat.beq f 54 then some c54 else none)) else (bif Nat.blt f 56 then (bif Nat.beq f 55 then some c55 else none) else (bif Nat.beq f 56 then some c56 else none)))) else (bif Nat.blt f 61 then (bif Nat.blt f 59 then (bif Nat.blt f 58 then (bif Nat.beq f 57 then some c57 else none) else (bif Nat.beq f 58 then some c58 else none)) else (bif Nat.blt f 60 then (bif Nat.beq f 59 then some c59 else none) else (bif Nat.beq f 60 then some c60 else none))) else (bif Nat.blt f 64 then (bif Nat.blt f 63 then (bif Nat.beq f 61 then some c61 else none) else (bif Nat.beq f 63 then some c63 else none)) else (bif Nat.blt f 65 then (bif Nat.beq f 64 then some c64 else none) else (bif Nat.blt f 66 then (bif Nat.beq f 65 then some c65 else none) else (bif Nat.beq f 66 then some c66 else none)))))) else (bif Nat.blt f 77 then (bif Nat.blt f 73 then (bif Nat.blt f 69 then (bif Nat.blt f 68 then (bif Nat.beq f 67 then some c67 else none) else (bif Nat.beq f 68 then some c68 else none)) else (bif Nat.blt f 72 then (bif Nat.beq f 69 then some c69 else none) else (bif Nat.beq f 72 then some c72 else none))) else (bif Nat.blt f 75 then (bif Nat.blt f 74 then (bif Nat.beq f 73 then some c73 else none) else (bif Nat.beq f 74 then some c74 else none)) else (bif Nat.blt f 76 then (bif Nat.beq f 75 then some c75 else none) else (bif Nat.beq f 76 then some c76 else none)))) else (bif Nat.blt f 82 then (bif Nat.blt f 80 then (bif Nat.blt f 79 then (bif Nat.beq f 77 then some c77 else none) else (bif Nat.beq f 79 then some c79 else none)) else (bif Nat.blt f 81 then (bif Nat.beq f 80 then some c80 else none) else (bif Nat.beq f 81 then some c81 else none))) else (bif Nat.blt f 84 then (bif Nat.blt f 83 then (bif Nat.beq f 82 then some c82 else none) else (bif Nat.beq f 83 then some c83 else none)) else (bif Nat.blt f 88 then (bif Nat.beq f 84 then some c84 else none) else (bif Nat.blt f 89 then (bif Nat.beq f 88 then some c88 else none) else (bif Nat.beq f 89 then some c89 else none))))))))
theorem kc3 : codeOf Tryd.prog 3 = some (164, [(.tmp 6, false, 0)], k3) := by kernel_rfl
theorem kc4 : codeOf Tryd.prog 4 = some (200, [(.tmp 4, false, 0)], k4) := by kernel_rfl
theorem kc6 : codeOf Tryd.prog 6 = some (87, [(.tmp 4, false, 0)], k6) := by kernel_rfl
theorem kc8 : codeOf Tryd.prog 8 = some (81, [(.tmp 0, false, 0)], k8) := by kernel_rfl
theorem kc9 : codeOf Tryd.prog 9 = some (8, [(.tmp 2, false, 0)], k9) := by kernel_rfl
theorem kc10 : codeOf Tryd.prog 10 = some (33, [(.tmp 2, false, 0), (.tmp 3, false, 0), (.tmp 4, false, 0)], k10) := by kernel_rfl
theorem kc11 : codeOf Tryd.prog 11 = some (33, [(.tmp 2, false, 0), (.tmp 3, false, 0)], k11) := by kernel_rfl
theorem kc12 : codeOf Tryd.prog 12 = some (51, [(.tmp 4, false, 0), (.tmp 5, false, 0)], k12) := by kernel_rfl
theorem kc13 : codeOf Tryd.prog 13 = some (85, [(.tmp 4, false, 0)], k13) := by kernel_rfl
theorem kc14 : codeOf Tryd.prog 14 = some (8, [(.cell 2 36, true, 4)], k14) := by kernel_rfl
theorem kc15 : codeOf Tryd.prog 15 = some (25, [(.tmp 2, false, 0)], k15) := by kernel_rfl
theorem kc16 : codeOf Tryd.prog 16 = some (53, [(.cell 6 41, true, 4), (.tmp 7, false, 0)], k16) := by kernel_rfl
theorem kc17 : codeOf Tryd.prog 17 = some (12, [(.tmp 4, false, 0)], k17) := by kernel_rfl
theorem kc22 : codeOf Tryd.prog 22 = some (36, [(.cell 6 36, true, 4), (.tmp 7, false, 0)], k22) := by kernel_rfl
theorem kc23 : codeOf Tryd.prog 23 = some (48, [(.cell 2 26, false, 1)], k23) := by kernel_rfl
theorem kc24 : codeOf Tryd.prog 24 = some (31, [(.tmp 4, false, 0)], k24) := by kernel_rfl
theorem kc25 : codeOf Tryd.prog 25 = some (47, [(.tmp 2, false, 0)], k25) := by kernel_rfl
theorem kc26 : codeOf Tryd.prog 26 = some (31, [(.tmp 4, false, 0)], k26) := by kernel_rfl
theorem kc29 : codeOf Tryd.prog 29 = some (11, [(.cell 0 36, true, 4)], k29) := by kernel_rfl
theorem kc30 : codeOf Tryd.prog 30 = some (19, [(.cell 2 36, true, 4), (.cell 3 3, false, 1), (.cell 4 26, false, 1)], k30) := by kernel_rfl
theorem kc31 : codeOf Tryd.prog 31 = some (18, [(.tmp 4, false, 0)], k31) := by kernel_rfl
theorem kc32 : codeOf Tryd.prog 32 = some (41, [(.tmp 2, false, 0), (.tmp 3, false, 0)], k32) := by kernel_rfl
theorem kc33 : codeOf Tryd.prog 33 = some (17, [(.tmp 2, false, 0), (.tmp 3, false, 0)], k33) := by kernel_rfl
theorem kc34 : codeOf Tryd.prog 34 = some (17, [(.tmp 2, false, 0)], k34) := by kernel_rfl
theorem kc35 : codeOf Tryd.prog 35 = some (30, [(.tmp 6, false, 0)], k35) := by kernel_rfl
theorem kc36 : codeOf Tryd.prog 36 = some (20, [(.tmp 4, false, 0)], k36) := by kernel_rfl
theorem kc37 : codeOf Tryd.prog 37 = some (11, [(.tmp 2, false, 0)], k37) := by kernel_rfl
theorem kc38 : codeOf Tryd.prog 38 = some (15, [(.tmp 6, false, 0)], k38) := by kernel_rfl
theorem kc39 : codeOf Tryd.prog 39 = some (18, [(.tmp 4, false, 0)], k39) := by kernel_rfl
theorem kc40 : codeOf Tryd.prog 40 = some (4, [(.tmp 2, false, 0)], k40) := by kernel_rfl
theorem kc41 : codeOf Tryd.prog 41 = some (23, [(.tmp 6, false, 0)], k41) := by kernel_rfl
theorem kc42 : codeOf Tryd.prog 42 = some (37, [(.tmp 6, false, 0), (.tmp 7, false, 0)], k42) := by kernel_rfl
theorem kc44 : codeOf Tryd.prog 44 = some (8, [(.tmp 2, false, 0)], k44) := by kernel_rfl
theorem kc45 : codeOf Tryd.prog 45 = some (21, [(.tmp 4, false, 0)], k45) := by kernel_rfl
theorem kc47 : codeOf Tryd.prog 47 = some (3, [(.tmp 0, false, 0)], k47) := by kernel_rfl
theorem kc48 : codeOf Tryd.prog 48 = some (20, [(.cell 4 71, true, 7)], k48) := by kernel_rfl
theorem kc52 : codeOf Tryd.prog 52 = some (13, [], k52) := by kernel_rfl
theorem kc53 : codeOf Tryd.prog 53 = some (42, [(.cell 2 36, true, 4)], k53) := by kernel_rfl
theorem kc54 : codeOf Tryd.prog 54 = some (9, [(.tmp 4, false, 0)], k54) := by kernel_rfl
theorem kc55 : codeOf Tryd.prog 55 = some (5, [(.tmp 2, false, 0)], k55) := by kernel_rfl
theorem kc56 : codeOf Tryd.prog 56 = some (19, [(.tmp 4, false, 0)], k56) := by kernel_rfl
theorem kc57 : codeOf Tryd.prog 57 = some (5, [(.tmp 2, false, 0)], k57) := by kernel_rfl
theorem kc58 : codeOf Tryd.prog 58 = some (26, [(.tmp 4, false, 0)], k58) := by kernel_rfl
theorem kc59 : codeOf Tryd.prog 59 = some (27, [], k59) := by kernel_rfl
theorem kc60 : codeOf Tryd.prog 60 = some (13, [(.tmp 2, false, 0), (.tmp 3, false, 0)], k60) := by kernel_rfl
theorem kc61 : codeOf Tryd.prog 61 = some (19, [(.tmp 4, false, 0)], k61) := by kernel_rfl
theorem kc63 : codeOf Tryd.prog 63 = some (12, [(.cell 2 71, true, 7)], k63) := by kernel_rfl
theorem kc64 : codeOf Tryd.prog 64 = some (15, [(.cell 2 71, true, 7)], k64) := by kernel_rfl
theorem kc65 : codeOf Tryd.prog 65 = some (5, [(.tmp 2, false, 0)], k65) := by kernel_rfl
theorem kc66 : codeOf Tryd.prog 66 = some (17, [(.cell 2 71, true, 7)], k66) := by kernel_rfl
theorem kc67 : codeOf Tryd.prog 67 = some (14, [(.cell 2 71, true, 7)], k67) := by kernel_rfl
theorem kc68 : codeOf Tryd.prog 68 = some (14, [(.cell 2 71, true, 7)], k68) := by kernel_rfl
theorem kc69 : codeOf Tryd.prog 69 = some (20, [(.cell 2 71, true, 7)], k69) := by kernel_rfl
theorem kc72 : codeOf Tryd.prog 72 = some (4, [(.tmp 2, false, 0)], k72) := by kernel_rfl
theorem kc73 : codeOf Tryd.prog 73 = some (5, [(.tmp 2, false, 0)], k73) := by kernel_rfl
theorem kc74 : codeOf Tryd.prog 74 = some (8, [(.tmp 4, false, 0)], k74) := by kernel_rfl
theorem kc75 : codeOf Tryd.prog 75 = some (47, [(.cell 4 80, true, 3)], k75) := by kernel_rfl
theorem kc76 : codeOf Tryd.prog 76 = some (44, [(.cell 4 36, true, 4)], k76) := by kernel_rfl
theorem kc77 : codeOf Tryd.prog 77 = some (19, [(.tmp 4, false, 0)], k77) := by kernel_rfl
theorem kc79 : codeOf Tryd.prog 79 = some (25, [], k79) := by kernel_rfl
theorem kc80 : codeOf Tryd.prog 80 = some (8, [(.tmp 4, false, 0)], k80) := by kernel_rfl
theorem kc81 : codeOf Tryd.prog 81 = some (65, [(.tmp 4, false, 0)], k81) := by kernel_rfl
theorem kc82 : codeOf Tryd.prog 82 = some (5, [(.tmp 2, false, 0)], k82) := by kernel_rfl
theorem kc83 : codeOf Tryd.prog 83 = some (16, [(.tmp 4, false, 0)], k83) := by kernel_rfl
theorem kc84 : codeOf Tryd.prog 84 = some (45, [(.tmp 4, false, 0)], k84) := by kernel_rfl
theorem kc88 : codeOf Tryd.prog 88 = some (8, [(.tmp 4, false, 0)], k88) := by kernel_rfl
theorem kc89 : codeOf Tryd.prog 89 = some (21, [(.tmp 4, false, 0)], k89) := by kernel_rfl
end Go.Proofs.YtdljcjbghinhiaaDoor
