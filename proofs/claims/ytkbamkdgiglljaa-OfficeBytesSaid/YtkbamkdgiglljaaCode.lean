/- The small code of the functions of this program, as its own reader reads them: it is the program. -/
import Derived.Test.YtkbamkdgiglljaaProg
import Derived.Test.YtkbamkdgiglljaaCodeB
namespace Go.Proofs.Ytkbamkdgiglljaa
open Go Go.Em
set_option maxRecDepth 100000
def c3 : FnCode := ⟨60, false, [(.tmp 4, false, 0)], k3⟩
def c4 : FnCode := ⟨55, false, [(.tmp 2, false, 0), (.tmp 3, false, 0)], k4⟩
def c5 : FnCode := ⟨50, false, [(.cell 2 25, true, 8), (.tmp 3, false, 0)], k5⟩
def c6 : FnCode := ⟨96, false, [(.tmp 0, false, 0)], k6⟩
def c7 : FnCode := ⟨24, false, [(.tmp 2, false, 0)], k7⟩
def c8 : FnCode := ⟨15, true, [], k8⟩
def c9 : FnCode := ⟨18, true, [], k9⟩
def c10 : FnCode := ⟨15, false, [(.tmp 6, false, 0)], k10⟩
def c11 : FnCode := ⟨20, false, [(.tmp 2, false, 0)], k11⟩
def c12 : FnCode := ⟨12, false, [(.cell 2 23, true, 2)], k12⟩
def c13 : FnCode := ⟨17, false, [(.tmp 0, false, 0)], k13⟩
def c14 : FnCode := ⟨42, false, [(.cell 6 23, true, 2), (.tmp 7, false, 0)], k14⟩
def c15 : FnCode := ⟨12, false, [(.cell 0 51, true, 4), (.cell 1 53, true, 3)], k15⟩
def c16 : FnCode := ⟨66, false, [(.cell 6 51, true, 4), (.cell 7 53, true, 3), (.tmp 8, false, 0)], k16⟩
def c17 : FnCode := ⟨26, false, [(.tmp 4, false, 0)], k17⟩
def c18 : FnCode := ⟨32, false, [(.tmp 4, false, 0)], k18⟩
def c19 : FnCode := ⟨28, false, [(.tmp 2, false, 0)], k19⟩
def c20 : FnCode := ⟨11, false, [(.tmp 2, false, 0)], k20⟩
def c21 : FnCode := ⟨34, false, [(.tmp 2, false, 0)], k21⟩
def c22 : FnCode := ⟨38, false, [(.tmp 2, false, 0)], k22⟩
def c23 : FnCode := ⟨19, false, [(.tmp 4, false, 0)], k23⟩
def c24 : FnCode := ⟨18, false, [(.tmp 4, false, 0)], k24⟩
def c25 : FnCode := ⟨6, false, [(.tmp 2, false, 0)], k25⟩
def c26 : FnCode := ⟨10, false, [(.tmp 4, false, 0)], k26⟩
def c27 : FnCode := ⟨26, false, [(.tmp 4, false, 0)], k27⟩
def c28 : FnCode := ⟨18, false, [(.cell 4 25, true, 8)], k28⟩
def c29 : FnCode := ⟨36, true, [(.tmp 2, false, 0)], k29⟩
def c30 : FnCode := ⟨19, false, [(.tmp 2, false, 0)], k30⟩
def c31 : FnCode := ⟨2, false, [(.tmp 0, false, 0)], k31⟩
def c32 : FnCode := ⟨52, false, [(.tmp 4, false, 0)], k32⟩
def c33 : FnCode := ⟨27, false, [(.cell 4 44, true, 1), (.tmp 5, false, 0)], k33⟩
def c34 : FnCode := ⟨10, false, [(.tmp 4, false, 0)], k34⟩
def c35 : FnCode := ⟨23, true, [(.cell 2 51, true, 4)], k35⟩
def c36 : FnCode := ⟨16, false, [(.tmp 2, false, 0), (.tmp 3, false, 0)], k36⟩
def c37 : FnCode := ⟨10, false, [(.tmp 2, false, 0)], k37⟩
def c38 : FnCode := ⟨8, false, [(.tmp 4, false, 0)], k38⟩
def c39 : FnCode := ⟨5, false, [(.tmp 2, false, 0)], k39⟩
def c40 : FnCode := ⟨17, false, [(.tmp 4, false, 0)], k40⟩
def c41 : FnCode := ⟨11, false, [(.tmp 4, false, 0)], k41⟩
def c42 : FnCode := ⟨19, false, [(.tmp 4, false, 0)], k42⟩
def c43 : FnCode := ⟨23, false, [(.tmp 4, false, 0)], k43⟩
def c44 : FnCode := ⟨12, false, [(.tmp 6, false, 0)], k44⟩
def c45 : FnCode := ⟨8, false, [(.tmp 3, false, 0)], k45⟩
def c46 : FnCode := ⟨33, false, [(.cell 4 25, true, 8)], k46⟩
def c47 : FnCode := ⟨17, false, [(.tmp 4, false, 0)], k47⟩
def c48 : FnCode := ⟨27, true, [(.tmp 4, false, 0)], k48⟩
def c49 : FnCode := ⟨23, false, [(.tmp 2, false, 0)], k49⟩
def c50 : FnCode := ⟨71, false, [(.cell 2 51, true, 4), (.cell 3 53, true, 3), (.tmp 4, false, 0)], k50⟩
def c51 : FnCode := ⟨35, false, [(.cell 4 44, true, 1), (.tmp 5, false, 0)], k51⟩
def c52 : FnCode := ⟨26, false, [(.tmp 4, false, 0)], k52⟩
def c53 : FnCode := ⟨8, true, [(.tmp 2, false, 0)], k53⟩
def c54 : FnCode := ⟨6, false, [(.tmp 4, false, 0)], k54⟩
def c55 : FnCode := ⟨12, true, [], k55⟩
def c56 : FnCode := ⟨18, false, [(.tmp 2, false, 0)], k56⟩
def c57 : FnCode := ⟨20, false, [(.tmp 4, false, 0)], k57⟩
def c58 : FnCode := ⟨28, false, [(.tmp 5, false, 0)], k58⟩
def c59 : FnCode := ⟨9, false, [(.tmp 4, false, 0)], k59⟩
def c60 : FnCode := ⟨71, false, [(.cell 2 99, true, 4), (.tmp 3, false, 0)], k60⟩
def c61 : FnCode := ⟨34, false, [(.tmp 2, false, 0), (.tmp 3, false, 0)], k61⟩
def c62 : FnCode := ⟨13, false, [(.cell 4 51, true, 4)], k62⟩
def c63 : FnCode := ⟨6, false, [(.tmp 2, false, 0)], k63⟩
def c64 : FnCode := ⟨19, false, [(.tmp 4, false, 0)], k64⟩
def c65 : FnCode := ⟨18, false, [(.tmp 4, false, 0)], k65⟩
def c66 : FnCode := ⟨26, false, [(.tmp 2, false, 0), (.tmp 3, false, 0)], k66⟩
def c67 : FnCode := ⟨36, true, [(.tmp 2, false, 0)], k67⟩
def c68 : FnCode := ⟨14, true, [], k68⟩
def c69 : FnCode := ⟨10, false, [(.tmp 4, false, 0)], k69⟩
def c70 : FnCode := ⟨61, true, [(.tmp 2, false, 0)], k70⟩
def c71 : FnCode := ⟨10, false, [(.tmp 4, false, 0)], k71⟩
def c72 : FnCode := ⟨42, false, [(.cell 2 25, true, 8), (.tmp 3, false, 0)], k72⟩
def c73 : FnCode := ⟨27, true, [(.tmp 4, false, 0)], k73⟩
def c74 : FnCode := ⟨148, true, [], k74⟩
def c75 : FnCode := ⟨8, false, [(.tmp 2, false, 0)], k75⟩
def c76 : FnCode := ⟨53, true, [], k76⟩
def c77 : FnCode := ⟨60, true, [], k77⟩
def c78 : FnCode := ⟨67, true, [], k78⟩
def c79 : FnCode := ⟨63, true, [(.tmp 8, false, 0), (.tmp 9, false, 0)], k79⟩
def c80 : FnCode := ⟨34, true, [], k80⟩
def c81 : FnCode := ⟨141, true, [(.tmp 8, false, 0)], k81⟩
def c82 : FnCode := ⟨90, true, [(.tmp 10, false, 0)], k82⟩
def c83 : FnCode := ⟨178, true, [(.tmp 10, false, 0), (.tmp 11, false, 0)], k83⟩
def c84 : FnCode := ⟨19, false, [(.tmp 2, false, 0)], k84⟩
def c85 : FnCode := ⟨25, false, [(.tmp 2, false, 0)], k85⟩
def c86 : FnCode := ⟨82, true, [], k86⟩
def c87 : FnCode := ⟨7, false, [(.tmp 2, false, 0)], k87⟩
def c88 : FnCode := ⟨33, true, [(.tmp 2, false, 0)], k88⟩
def c89 : FnCode := ⟨18, true, [(.tmp 8, false, 0)], k89⟩
def c90 : FnCode := ⟨41, true, [(.tmp 12, false, 0)], k90⟩
def c91 : FnCode := ⟨32, true, [(.tmp 10, false, 0), (.tmp 11, false, 0)], k91⟩
def codes : List (Nat × FnCode) := [(3, c3), (4, c4), (5, c5), (6, c6), (7, c7), (8, c8), (9, c9), (10, c10), (11, c11), (12, c12), (13, c13), (14, c14), (15, c15), (16, c16), (17, c17), (18, c18), (19, c19), (20, c20), (21, c21), (22, c22), (23, c23), (24, c24), (25, c25), (26, c26), (27, c27), (28, c28), (29, c29), (30, c30), (31, c31), (32, c32), (33, c33), (34, c34), (35, c35), (36, c36), (37, c37), (38, c38), (39, c39), (40, c40), (41, c41), (42, c42), (43, c43), (44, c44), (45, c45), (46, c46), (47, c47), (48, c48), (49, c49), (50, c50), (51, c51), (52, c52), (53, c53), (54, c54), (55, c55), (56, c56), (57, c57), (58, c58), (59, c59), (60, c60), (61, c61), (62, c62), (63, c63), (64, c64), (65, c65), (66, c66), (67, c67), (68, c68), (69, c69), (70, c70), (71, c71), (72, c72), (73, c73), (74, c74), (75, c75), (76, c76), (77, c77), (78, c78), (79, c79), (80, c80), (81, c81), (82, c82), (83, c83), (84, c84), (85, c85), (86, c86), (87, c87), (88, c88), (89, c89), (90, c90), (91, c91)]
def codeAt (f : Nat) : Option FnCode := (bif Nat.blt f 47 then (bif Nat.blt f 25 then (bif Nat.blt f 14 then (bif Nat.blt f 8 then (bif Nat.blt f 5 then (bif Nat.blt f 4 then (bif Nat.beq f 3 then some c3 else none) else (bif Nat.beq f 4 then some c4 else none)) else (bif Nat.blt f 6 then (bif Nat.beq f 5 then some c5 else none) else (bif Nat.blt f 7 then (bif Nat.beq f 6 then some c6 else none) else (bif Nat.beq f 7 then some c7 else none)))) else (bif Nat.blt f 11 then (bif Nat.blt f 9 then (bif Nat.beq f 8 then some c8 else none) else (bif Nat.blt f 10 then (bif Nat.beq f 9 then some c9 else none) else (bif Nat.beq f 10 then some c10 else none))) else (bif Nat.blt f 12 then (bif Nat.beq f 11 then some c11 else none) else (bif Nat.blt f 13 then (bif Nat.beq f 12 then some c12 else none) else (bif Nat.beq f 13 then some c13 else none))))) else (bif Nat.blt f 19 then (bif Nat.blt f 16 then (bif Nat.blt f 15 then (bif Nat.beq f 14 then some c14 else none) else (bif Nat.beq f 15 then some c15 else none)) else (bif Nat.blt f 17 then (bif Nat.beq f 16 then some c16 else none) else (bif Nat.blt f 18 then (bif Nat.beq f 17 then some c17 else none) else (bif Nat.beq f 18 then some c18 else none)))) else (bif Nat.blt f 22 then (bif Nat.blt f 20 then (bif Nat.beq f 19 then some c19 else none) else (bif Nat.blt f 21 then (bif Nat.beq f 20 then some c20 else none) else (bif Nat.beq f 21 then some c21 else none))) else (bif Nat.blt f 23 then (bif Nat.beq f 22 then some c22 else none) else (bif Nat.blt f 24 then (bif Nat.beq f 23 then some c23 else none) else (bif Nat.beq f 24 then some c24 else none)))))) else (bif Nat.blt f 36 then (bif Nat.blt f 30 then (bif Nat.blt f 27 then (bif Nat.blt f 26 then (bif Nat.beq f 25 then some c25 else none) else (bif Nat.beq f 26 then some c26 else none)) else (bif Nat.blt f 28 then (bif Nat.beq f 27 then some c27 else none) else (bif Nat.blt f 29 then (bif Nat.beq f 28 then some c28 else none) else (bif Nat.beq f 29 then some c29 else none)))) else (bif Nat.blt f 33 then (bif Nat.blt f 31 then (bif Nat.beq f 30 then some c30 else none) else (bif Nat.blt f 32 then (bif Nat.beq f 31 then some c31 else none) else (bif Nat.beq f 32 then some c32 else none))) else (bif Nat.blt f 34 then (bif Nat.beq f 33 then some c33 else none) else (bif Nat.blt f 35 then (bif Nat.beq f 34 then some c34 else none) else (bif Nat.beq f 35 then some c35 else none))))) else (bif Nat.blt f 41 then (bif Nat.blt f 38 then (bif Nat.blt f 37 then (bif Nat.beq f 36 then some c36 else none) else (bif Nat.beq f 37 then some c37 else none)) else (bif Nat.blt f 39 then (bif Nat.beq f 38 then some c38 else none) else (bif Nat.blt f 40 then (bif Nat.beq f 39 then some c39 else none) else (bif Nat.beq f 40 then some c40 else none)))) else (bif Nat.blt f 44 then (bif Nat.blt f 42 then (bif Nat.beq f 41 then some c41 else none) else (bif Nat.blt f 43 then (bif Nat.beq f 42 then some c42 else none) else (bif Nat.beq f 43 then some c43 else none))) else (bif Nat.blt f 45 then (bif Nat.beq f 44 then some c44 else none) else (bif Nat.blt f 46 then (bif Nat.beq f 45 then some c45 else none) else (bif Nat.beq f 46 then some c46 else none))))))) else (bif Nat.blt f 69 then (bif Nat.blt f 58 then (bif Nat.blt f 52 then (bif Nat.blt f 49 then (bif Nat.blt f 48 then (bif Nat.beq f 47 then some c47 else none) else (bif Nat.beq f 48 then some c48 else none)) else (bif Nat.blt f 50 then (bif Nat.beq f 49 then some c49 else none) else (bif Nat.blt f 51 then (bif Nat.beq f 50 then some c50 else none) else (bif Nat.beq f 51 then some c51 else none)))) else (bif Nat.blt f 55 then (bif Nat.blt f 53 then (bif Nat.beq f 52 then some c52 else none) else (bif Nat.blt f 54 then (bif Nat.beq f 53 then some c53 else none) else (bif Nat.beq f 54 then some c54 else none))) else (bif Nat.blt f 56 then (bif Nat.beq f 55 then some c55 else none) else (bif Nat.blt f 57 then (bif Nat.beq f 56 then some c56 else none) else (bif Nat.beq f 57 then some c57 else none))))) else (bif Nat.blt f 63 then (bif Nat.blt f 60 then (bif Nat.blt f 59 then (bif Nat.beq f 58 then some c58 else none) else (bif Nat.beq f 59 then some c59 else none)) else (bif Nat.blt f 61 then (bif Nat.beq f 60 then some c60 else none) else (bif Nat.blt f 62 then (bif Nat.beq f 61 then some c61 else none) else (bif Nat.beq f 62 then some c62 else none)))) else (bif Nat.blt f 66 then (bif Nat.blt f 64 then (bif Nat.beq f 63 then some c63 else none) else (bif Nat.blt f 65 then (bif Nat.beq f 64 then some c64 else none) else (bif Nat.beq f 65 then some c65 else none))) else (bif Nat.blt f 67 then (bif Nat.beq f 66 then some c66 else none) else (bif Nat.blt f 68 then (bif Nat.beq f 67 then some c67 else none) else (bif Nat.beq f 68 then some c68 else none)))))) else (bif Nat.blt f 80 then (bif Nat.blt f 74 then (bif Nat.blt f 71 then (bif Nat.blt f 70 then (bif Nat.beq f 69 then some c69 else none) else (bif Nat.beq f 70 then some c70 else none)) else (bif Nat.blt f 72 then (bif Nat.beq f 71 then some c71 else none) else (bif Nat.blt f 73 then (bif Nat.beq f 72 then some c72 else none) else (bif Nat.beq f 73 then some c73 else none)))) else (bif Nat.blt f 77 then (bif Nat.blt f 75 then (bif Nat.beq f 74 then some c74 else none) else (bif Nat.blt f 76 then (bif Nat.beq f 75 then some c75 else none) else (bif Nat.beq f 76 then some c76 else none))) else (bif Nat.blt f 78 then (bif Nat.beq f 77 then some c77 else none) else (bif Nat.blt f 79 then (bif Nat.beq f 78 then some c78 else none) else (bif Nat.beq f 79 then some c79 else none))))) else (bif Nat.blt f 86 then (bif Nat.blt f 83 then (bif Nat.blt f 81 then (bif Nat.beq f 80 then some c80 else none) else (bif Nat.blt f 82 then (bif Nat.beq f 81 then some c81 else none) else (bif Nat.beq f 82 then some c82 else none))) else (bif Nat.blt f 84 then (bif Nat.beq f 83 then some c83 else none) else (bif Nat.blt f 85 then (bif Nat.beq f 84 then some c84 else none) else (bif Nat.beq f 85 then some c85 else none)))) else (bif Nat.blt f 89 then (bif Nat.blt f 87 then (bif Nat.beq f 86 then some c86 else none) else (bif Nat.blt f 88 then (bif Nat.beq f 87 then some c87 else none) else (bif Nat.beq f 88 then some c88 else none))) else (bif Nat.blt f 90 then (bif Nat.beq f 89 then some c89 else none) else (bif Nat.blt f 91 then (bif Nat.beq f 90 then some c90 else none) else (bif Nat.beq f 91 then some c91 else none))))))))
theorem kc3 : codeOf Try.prog 3 = some (60, [(.tmp 4, false, 0)], k3) := by kernel_rfl
theorem kc4 : codeOf Try.prog 4 = some (55, [(.tmp 2, false, 0), (.tmp 3, false, 0)], k4) := by kernel_rfl
theorem kc5 : codeOf Try.prog 5 = some (50, [(.cell 2 25, true, 8), (.tmp 3, false, 0)], k5) := by kernel_rfl
theorem kc6 : codeOf Try.prog 6 = some (96, [(.tmp 0, false, 0)], k6) := by kernel_rfl
theorem kc7 : codeOf Try.prog 7 = some (24, [(.tmp 2, false, 0)], k7) := by kernel_rfl
theorem kc8 : codeOf Try.prog 8 = some (15, [], k8) := by kernel_rfl
theorem kc9 : codeOf Try.prog 9 = some (18, [], k9) := by kernel_rfl
theorem kc10 : codeOf Try.prog 10 = some (15, [(.tmp 6, false, 0)], k10) := by kernel_rfl
theorem kc11 : codeOf Try.prog 11 = some (20, [(.tmp 2, false, 0)], k11) := by kernel_rfl
theorem kc12 : codeOf Try.prog 12 = some (12, [(.cell 2 23, true, 2)], k12) := by kernel_rfl
theorem kc13 : codeOf Try.prog 13 = some (17, [(.tmp 0, false, 0)], k13) := by kernel_rfl
theorem kc14 : codeOf Try.prog 14 = some (42, [(.cell 6 23, true, 2), (.tmp 7, false, 0)], k14) := by kernel_rfl
theorem kc15 : codeOf Try.prog 15 = some (12, [(.cell 0 51, true, 4), (.cell 1 53, true, 3)], k15) := by kernel_rfl
theorem kc16 : codeOf Try.prog 16 = some (66, [(.cell 6 51, true, 4), (.cell 7 53, true, 3), (.tmp 8, false, 0)], k16) := by kernel_rfl
theorem kc17 : codeOf Try.prog 17 = some (26, [(.tmp 4, false, 0)], k17) := by kernel_rfl
theorem kc18 : codeOf Try.prog 18 = some (32, [(.tmp 4, false, 0)], k18) := by kernel_rfl
theorem kc19 : codeOf Try.prog 19 = some (28, [(.tmp 2, false, 0)], k19) := by kernel_rfl
theorem kc20 : codeOf Try.prog 20 = some (11, [(.tmp 2, false, 0)], k20) := by kernel_rfl
theorem kc21 : codeOf Try.prog 21 = some (34, [(.tmp 2, false, 0)], k21) := by kernel_rfl
theorem kc22 : codeOf Try.prog 22 = some (38, [(.tmp 2, false, 0)], k22) := by kernel_rfl
theorem kc23 : codeOf Try.prog 23 = some (19, [(.tmp 4, false, 0)], k23) := by kernel_rfl
theorem kc24 : codeOf Try.prog 24 = some (18, [(.tmp 4, false, 0)], k24) := by kernel_rfl
theorem kc25 : codeOf Try.prog 25 = some (6, [(.tmp 2, false, 0)], k25) := by kernel_rfl
theorem kc26 : codeOf Try.prog 26 = some (10, [(.tmp 4, false, 0)], k26) := by kernel_rfl
theorem kc27 : codeOf Try.prog 27 = some (26, [(.tmp 4, false, 0)], k27) := by kernel_rfl
theorem kc28 : codeOf Try.prog 28 = some (18, [(.cell 4 25, true, 8)], k28) := by kernel_rfl
theorem kc29 : codeOf Try.prog 29 = some (36, [(.tmp 2, false, 0)], k29) := by kernel_rfl
theorem kc30 : codeOf Try.prog 30 = some (19, [(.tmp 2, false, 0)], k30) := by kernel_rfl
theorem kc31 : codeOf Try.prog 31 = some (2, [(.tmp 0, false, 0)], k31) := by kernel_rfl
theorem kc32 : codeOf Try.prog 32 = some (52, [(.tmp 4, false, 0)], k32) := by kernel_rfl
theorem kc33 : codeOf Try.prog 33 = some (27, [(.cell 4 44, true, 1), (.tmp 5, false, 0)], k33) := by kernel_rfl
theorem kc34 : codeOf Try.prog 34 = some (10, [(.tmp 4, false, 0)], k34) := by kernel_rfl
theorem kc35 : codeOf Try.prog 35 = some (23, [(.cell 2 51, true, 4)], k35) := by kernel_rfl
theorem kc36 : codeOf Try.prog 36 = some (16, [(.tmp 2, false, 0), (.tmp 3, false, 0)], k36) := by kernel_rfl
theorem kc37 : codeOf Try.prog 37 = some (10, [(.tmp 2, false, 0)], k37) := by kernel_rfl
theorem kc38 : codeOf Try.prog 38 = some (8, [(.tmp 4, false, 0)], k38) := by kernel_rfl
theorem kc39 : codeOf Try.prog 39 = some (5, [(.tmp 2, false, 0)], k39) := by kernel_rfl
theorem kc40 : codeOf Try.prog 40 = some (17, [(.tmp 4, false, 0)], k40) := by kernel_rfl
theorem kc41 : codeOf Try.prog 41 = some (11, [(.tmp 4, false, 0)], k41) := by kernel_rfl
theorem kc42 : codeOf Try.prog 42 = some (19, [(.tmp 4, false, 0)], k42) := by kernel_rfl
theorem kc43 : codeOf Try.prog 43 = some (23, [(.tmp 4, false, 0)], k43) := by kernel_rfl
theorem kc44 : codeOf Try.prog 44 = some (12, [(.tmp 6, false, 0)], k44) := by kernel_rfl
theorem kc45 : codeOf Try.prog 45 = some (8, [(.tmp 3, false, 0)], k45) := by kernel_rfl
theorem kc46 : codeOf Try.prog 46 = some (33, [(.cell 4 25, true, 8)], k46) := by kernel_rfl
theorem kc47 : codeOf Try.prog 47 = some (17, [(.tmp 4, false, 0)], k47) := by kernel_rfl
theorem kc48 : codeOf Try.prog 48 = some (27, [(.tmp 4, false, 0)], k48) := by kernel_rfl
theorem kc49 : codeOf Try.prog 49 = some (23, [(.tmp 2, false, 0)], k49) := by kernel_rfl
theorem kc50 : codeOf Try.prog 50 = some (71, [(.cell 2 51, true, 4), (.cell 3 53, true, 3), (.tmp 4, false, 0)], k50) := by kernel_rfl
theorem kc51 : codeOf Try.prog 51 = some (35, [(.cell 4 44, true, 1), (.tmp 5, false, 0)], k51) := by kernel_rfl
theorem kc52 : codeOf Try.prog 52 = some (26, [(.tmp 4, false, 0)], k52) := by kernel_rfl
theorem kc53 : codeOf Try.prog 53 = some (8, [(.tmp 2, false, 0)], k53) := by kernel_rfl
theorem kc54 : codeOf Try.prog 54 = some (6, [(.tmp 4, false, 0)], k54) := by kernel_rfl
theorem kc55 : codeOf Try.prog 55 = some (12, [], k55) := by kernel_rfl
theorem kc56 : codeOf Try.prog 56 = some (18, [(.tmp 2, false, 0)], k56) := by kernel_rfl
theorem kc57 : codeOf Try.prog 57 = some (20, [(.tmp 4, false, 0)], k57) := by kernel_rfl
theorem kc58 : codeOf Try.prog 58 = some (28, [(.tmp 5, false, 0)], k58) := by kernel_rfl
theorem kc59 : codeOf Try.prog 59 = some (9, [(.tmp 4, false, 0)], k59) := by kernel_rfl
theorem kc60 : codeOf Try.prog 60 = some (71, [(.cell 2 99, true, 4), (.tmp 3, false, 0)], k60) := by kernel_rfl
theorem kc61 : codeOf Try.prog 61 = some (34, [(.tmp 2, false, 0), (.tmp 3, false, 0)], k61) := by kernel_rfl
theorem kc62 : codeOf Try.prog 62 = some (13, [(.cell 4 51, true, 4)], k62) := by kernel_rfl
theorem kc63 : codeOf Try.prog 63 = some (6, [(.tmp 2, false, 0)], k63) := by kernel_rfl
theorem kc64 : codeOf Try.prog 64 = some (19, [(.tmp 4, false, 0)], k64) := by kernel_rfl
theorem kc65 : codeOf Try.prog 65 = some (18, [(.tmp 4, false, 0)], k65) := by kernel_rfl
theorem kc66 : codeOf Try.prog 66 = some (26, [(.tmp 2, false, 0), (.tmp 3, false, 0)], k66) := by kernel_rfl
theorem kc67 : codeOf Try.prog 67 = some (36, [(.tmp 2, false, 0)], k67) := by kernel_rfl
theorem kc68 : codeOf Try.prog 68 = some (14, [], k68) := by kernel_rfl
theorem kc69 : codeOf Try.prog 69 = some (10, [(.tmp 4, false, 0)], k69) := by kernel_rfl
theorem kc70 : codeOf Try.prog 70 = some (61, [(.tmp 2, false, 0)], k70) := by kernel_rfl
theorem kc71 : codeOf Try.prog 71 = some (10, [(.tmp 4, false, 0)], k71) := by kernel_rfl
theorem kc72 : codeOf Try.prog 72 = some (42, [(.cell 2 25, true, 8), (.tmp 3, false, 0)], k72) := by kernel_rfl
theorem kc73 : codeOf Try.prog 73 = some (27, [(.tmp 4, false, 0)], k73) := by kernel_rfl
theorem kc74 : codeOf Try.prog 74 = some (148, [], k74) := by kernel_rfl
theorem kc75 : codeOf Try.prog 75 = some (8, [(.tmp 2, false, 0)], k75) := by kernel_rfl
theorem kc76 : codeOf Try.prog 76 = some (53, [], k76) := by kernel_rfl
theorem kc77 : codeOf Try.prog 77 = some (60, [], k77) := by kernel_rfl
theorem kc78 : codeOf Try.prog 78 = some (67, [], k78) := by kernel_rfl
theorem kc79 : codeOf Try.prog 79 = some (63, [(.tmp 8, false, 0), (.tmp 9, false, 0)], k79) := by kernel_rfl
theorem kc80 : codeOf Try.prog 80 = some (34, [], k80) := by kernel_rfl
theorem kc81 : codeOf Try.prog 81 = some (141, [(.tmp 8, false, 0)], k81) := by kernel_rfl
theorem kc82 : codeOf Try.prog 82 = some (90, [(.tmp 10, false, 0)], k82) := by kernel_rfl
theorem kc83 : codeOf Try.prog 83 = some (178, [(.tmp 10, false, 0), (.tmp 11, false, 0)], k83) := by kernel_rfl
theorem kc84 : codeOf Try.prog 84 = some (19, [(.tmp 2, false, 0)], k84) := by kernel_rfl
theorem kc85 : codeOf Try.prog 85 = some (25, [(.tmp 2, false, 0)], k85) := by kernel_rfl
theorem kc86 : codeOf Try.prog 86 = some (82, [], k86) := by kernel_rfl
theorem kc87 : codeOf Try.prog 87 = some (7, [(.tmp 2, false, 0)], k87) := by kernel_rfl
theorem kc88 : codeOf Try.prog 88 = some (33, [(.tmp 2, false, 0)], k88) := by kernel_rfl
theorem kc89 : codeOf Try.prog 89 = some (18, [(.tmp 8, false, 0)], k89) := by kernel_rfl
theorem kc90 : codeOf Try.prog 90 = some (41, [(.tmp 12, false, 0)], k90) := by kernel_rfl
theorem kc91 : codeOf Try.prog 91 = some (32, [(.tmp 10, false, 0), (.tmp 11, false, 0)], k91) := by kernel_rfl
end Go.Proofs.Ytkbamkdgiglljaa
