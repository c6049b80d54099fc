/- The small code of the functions of this program, as its own reader reads them: it is the program. -/
import Derived.Test.YtlkpikdfbodhoaaDoorProg
import Derived.Test.YtlkpikdfbodhoaaDoorCodeB
namespace Go.Proofs.YtlkpikdfbodhoaaDoor
open Go Go.Em
set_option maxRecDepth 100000
def c9 : FnCode := ⟨28, false, [(.tmp 2, false, 0)], k9⟩
def c10 : FnCode := ⟨65, false, [(.tmp 4, false, 0), (.tmp 5, false, 0), (.tmp 6, false, 0), (.tmp 7, false, 0)], k10⟩
def c11 : FnCode := ⟨96, false, [(.tmp 0, false, 0)], k11⟩
def c12 : FnCode := ⟨45, false, [(.tmp 6, false, 0), (.tmp 7, false, 0), (.tmp 8, false, 0)], k12⟩
def c15 : FnCode := ⟨45, false, [(.tmp 6, false, 0), (.tmp 7, false, 0), (.tmp 8, false, 0)], k15⟩
def c18 : FnCode := ⟨26, false, [(.tmp 4, false, 0)], k18⟩
def c23 : FnCode := ⟨40, false, [(.tmp 4, false, 0)], k23⟩
def c25 : FnCode := ⟨24, false, [(.cell 2 40, true, 2), (.tmp 3, false, 0)], k25⟩
def c26 : FnCode := ⟨22, false, [(.tmp 2, false, 0)], k26⟩
def c27 : FnCode := ⟨42, false, [(.tmp 2, false, 0)], k27⟩
def c28 : FnCode := ⟨40, false, [(.tmp 2, false, 0)], k28⟩
def c29 : FnCode := ⟨25, false, [(.tmp 2, false, 0)], k29⟩
def c30 : FnCode := ⟨26, false, [(.tmp 4, false, 0)], k30⟩
def c32 : FnCode := ⟨26, true, [(.tmp 2, false, 0)], k32⟩
def c37 : FnCode := ⟨36, true, [(.tmp 2, false, 0), (.tmp 3, false, 0)], k37⟩
def c40 : FnCode := ⟨40, false, [(.tmp 2, false, 0), (.tmp 3, false, 0)], k40⟩
def c41 : FnCode := ⟨46, false, [(.tmp 2, false, 0), (.tmp 3, false, 0)], k41⟩
def c42 : FnCode := ⟨15, false, [(.tmp 6, false, 0)], k42⟩
def c43 : FnCode := ⟨21, false, [(.tmp 4, false, 0), (.tmp 5, false, 0), (.tmp 6, false, 0)], k43⟩
def c44 : FnCode := ⟨6, false, [(.tmp 0, false, 0)], k44⟩
def c45 : FnCode := ⟨26, false, [(.tmp 4, false, 0), (.tmp 5, false, 0)], k45⟩
def c46 : FnCode := ⟨26, false, [(.tmp 4, false, 0)], k46⟩
def c47 : FnCode := ⟨27, false, [(.tmp 4, false, 0)], k47⟩
def c48 : FnCode := ⟨49, false, [(.cell 6 76, true, 4), (.tmp 7, false, 0)], k48⟩
def c49 : FnCode := ⟨17, false, [(.tmp 6, false, 0)], k49⟩
def c50 : FnCode := ⟨36, false, [(.tmp 4, false, 0)], k50⟩
def c51 : FnCode := ⟨81, false, [(.cell 4 83, true, 2)], k51⟩
def c52 : FnCode := ⟨3, false, [(.tmp 2, false, 0)], k52⟩
def c53 : FnCode := ⟨101, false, [(.cell 2 40, true, 2), (.tmp 3, false, 0)], k53⟩
def c54 : FnCode := ⟨21, false, [(.tmp 2, false, 0)], k54⟩
def c56 : FnCode := ⟨19, false, [(.tmp 4, false, 0)], k56⟩
def c60 : FnCode := ⟨16, false, [(.tmp 4, false, 0)], k60⟩
def c61 : FnCode := ⟨27, true, [], k61⟩
def c62 : FnCode := ⟨58, true, [], k62⟩
def c65 : FnCode := ⟨49, false, [(.tmp 4, false, 0)], k65⟩
def c66 : FnCode := ⟨89, true, [(.tmp 2, false, 0)], k66⟩
def c67 : FnCode := ⟨15, false, [(.tmp 6, false, 0)], k67⟩
def c70 : FnCode := ⟨41, false, [(.cell 2 74, true, 2), (.tmp 3, false, 0)], k70⟩
def c71 : FnCode := ⟨7, false, [(.tmp 2, false, 0)], k71⟩
def c72 : FnCode := ⟨7, true, [(.tmp 2, false, 0)], k72⟩
def c75 : FnCode := ⟨19, true, [(.tmp 2, false, 0)], k75⟩
def c76 : FnCode := ⟨8, false, [(.tmp 2, false, 0)], k76⟩
def c77 : FnCode := ⟨4, true, [(.tmp 2, false, 0)], k77⟩
def c78 : FnCode := ⟨15, true, [(.tmp 4, false, 0)], k78⟩
def c79 : FnCode := ⟨42, true, [(.tmp 4, false, 0)], k79⟩
def c80 : FnCode := ⟨9, false, [(.tmp 3, false, 0)], k80⟩
def c85 : FnCode := ⟨7, false, [(.tmp 3, false, 0)], k85⟩
def c86 : FnCode := ⟨17, false, [(.tmp 4, false, 0)], k86⟩
def c87 : FnCode := ⟨22, false, [(.cell 2 40, true, 2), (.tmp 3, false, 0)], k87⟩
def c88 : FnCode := ⟨15, true, [(.cell 2 115, true, 4)], k88⟩
def c89 : FnCode := ⟨71, true, [(.tmp 4, false, 0)], k89⟩
def c90 : FnCode := ⟨69, false, [(.tmp 4, false, 0)], k90⟩
def c91 : FnCode := ⟨19, false, [(.tmp 4, false, 0)], k91⟩
def c92 : FnCode := ⟨28, false, [(.tmp 5, false, 0)], k92⟩
def c93 : FnCode := ⟨33, false, [(.tmp 4, false, 0)], k93⟩
def c96 : FnCode := ⟨31, true, [(.cell 2 74, true, 2)], k96⟩
def c98 : FnCode := ⟨54, false, [(.tmp 4, false, 0), (.tmp 5, false, 0)], k98⟩
def c101 : FnCode := ⟨12, false, [(.tmp 2, false, 0)], k101⟩
def c102 : FnCode := ⟨21, true, [], k102⟩
def c103 : FnCode := ⟨30, false, [(.tmp 2, false, 0)], k103⟩
def c104 : FnCode := ⟨11, true, [], k104⟩
def c105 : FnCode := ⟨61, true, [(.tmp 2, false, 0)], k105⟩
def c106 : FnCode := ⟨13, false, [(.tmp 3, false, 0)], k106⟩
def c107 : FnCode := ⟨19, false, [], k107⟩
def c108 : FnCode := ⟨19, true, [(.tmp 4, false, 0)], k108⟩
def c110 : FnCode := ⟨26, false, [(.tmp 4, false, 0)], k110⟩
def c111 : FnCode := ⟨32, false, [(.tmp 6, false, 0)], k111⟩
def c112 : FnCode := ⟨69, false, [(.tmp 4, false, 0), (.tmp 5, false, 0), (.tmp 6, false, 0)], k112⟩
def c113 : FnCode := ⟨15, true, [], k113⟩
def c114 : FnCode := ⟨30, false, [(.tmp 6, false, 0)], k114⟩
def c115 : FnCode := ⟨48, true, [(.tmp 4, false, 0)], k115⟩
def c117 : FnCode := ⟨17, false, [(.tmp 4, false, 0)], k117⟩
def c118 : FnCode := ⟨6, false, [(.tmp 2, false, 0)], k118⟩
def c119 : FnCode := ⟨63, false, [(.tmp 2, false, 0), (.tmp 3, false, 0)], k119⟩
def c120 : FnCode := ⟨18, true, [], k120⟩
def c121 : FnCode := ⟨14, false, [(.tmp 2, false, 0)], k121⟩
def c122 : FnCode := ⟨134, true, [], k122⟩
def c123 : FnCode := ⟨8, false, [(.tmp 2, false, 0)], k123⟩
def c124 : FnCode := ⟨30, false, [(.tmp 4, false, 0), (.tmp 5, false, 0)], k124⟩
def c125 : FnCode := ⟨6, false, [(.tmp 2, false, 0)], k125⟩
def c126 : FnCode := ⟨49, true, [], k126⟩
def c127 : FnCode := ⟨56, true, [], k127⟩
def c128 : FnCode := ⟨65, true, [], k128⟩
def c129 : FnCode := ⟨57, true, [(.tmp 6, false, 0), (.tmp 7, false, 0)], k129⟩
def c130 : FnCode := ⟨32, true, [], k130⟩
def c131 : FnCode := ⟨133, true, [(.tmp 6, false, 0)], k131⟩
def c132 : FnCode := ⟨84, true, [(.tmp 8, false, 0)], k132⟩
def c133 : FnCode := ⟨168, true, [(.tmp 8, false, 0), (.tmp 9, false, 0)], k133⟩
def c134 : FnCode := ⟨19, false, [(.tmp 2, false, 0)], k134⟩
def c135 : FnCode := ⟨25, false, [(.tmp 2, false, 0)], k135⟩
def c136 : FnCode := ⟨17, false, [(.tmp 4, false, 0), (.tmp 5, false, 0)], k136⟩
def c137 : FnCode := ⟨51, false, [(.tmp 4, false, 0), (.tmp 5, false, 0)], k137⟩
def c138 : FnCode := ⟨76, true, [], k138⟩
def c139 : FnCode := ⟨7, false, [(.tmp 2, false, 0)], k139⟩
def c140 : FnCode := ⟨33, true, [(.tmp 2, false, 0)], k140⟩
def c141 : FnCode := ⟨15, true, [(.tmp 6, false, 0)], k141⟩
def c142 : FnCode := ⟨36, true, [(.tmp 10, false, 0)], k142⟩
def c143 : FnCode := ⟨28, true, [(.tmp 8, false, 0), (.tmp 9, false, 0)], k143⟩
def codes : List (Nat × FnCode) := [(9, c9), (10, c10), (11, c11), (12, c12), (15, c15), (18, c18), (23, c23), (25, c25), (26, c26), (27, c27), (28, c28), (29, c29), (30, c30), (32, c32), (37, c37), (40, c40), (41, c41), (42, c42), (43, c43), (44, c44), (45, c45), (46, c46), (47, c47), (48, c48), (49, c49), (50, c50), (51, c51), (52, c52), (53, c53), (54, c54), (56, c56), (60, c60), (61, c61), (62, c62), (65, c65), (66, c66), (67, c67), (70, c70), (71, c71), (72, c72), (75, c75), (76, c76), (77, c77), (78, c78), (79, c79), (80, c80), (85, c85), (86, c86), (87, c87), (88, c88), (89, c89), (90, c90), (91, c91), (92, c92), (93, c93), (96, c96), (98, c98), (101, c101), (102, c102), (103, c103), (104, c104), (105, c105), (106, c106), (107, c107), (108, c108), (110, c110), (111, c111), (112, c112), (113, c113), (114, c114), (115, c115), (117, c117), (118, c118), (119, c119), (120, c120), (121, c121), (122, c122), (123, c123), (124, c124), (125, c125), (126, c126), (127, c127), (128, c128), (129, c129), (130, c130), (131, c131), (132, c132), (133, c133), (134, c134), (135, c135), (136, c136), (137, c137), (138, c138), (139, c139), (140, c140), (141, c141), (142, c142), (143, c143)]
def codeAt (f : Nat) : Option FnCode := (bif Nat.blt f 88 then (bif Nat.blt f 49 then (bif Nat.blt f 30 then (bif Nat.blt f 23 then (bif Nat.blt f 12 then (bif Nat.blt f 10 then (bif Nat.beq f 9 then some c9 else none) else (bif Nat.blt f 11 then (bif Nat.beq f 10 then some c10 else none) else (bif Nat.beq f 11 then some c11 else none))) else (bif Nat.blt f 15 then (bif Nat.beq f 12 then some c12 else none) else (bif Nat.blt f 18 then (bif Nat.beq f 15 then some c15 else none) else (bif Nat.beq f 18 then some c18 else none)))) else (bif Nat.blt f 27 then (bif Nat.blt f 25 then (bif Nat.beq f 23 then some c23 else none) else (bif Nat.blt f 26 then (bif Nat.beq f 25 then some c25 else none) else (bif Nat.beq f 26 then some c26 else none))) else (bif Nat.blt f 28 then (bif Nat.beq f 27 then some c27 else none) else (bif Nat.blt f 29 then (bif Nat.beq f 28 then some c28 else none) else (bif Nat.beq f 29 then some c29 else none))))) else (bif Nat.blt f 43 then (bif Nat.blt f 40 then (bif Nat.blt f 32 then (bif Nat.beq f 30 then some c30 else none) else (bif Nat.blt f 37 then (bif Nat.beq f 32 then some c32 else none) else (bif Nat.beq f 37 then some c37 else none))) else (bif Nat.blt f 41 then (bif Nat.beq f 40 then some c40 else none) else (bif Nat.blt f 42 then (bif Nat.beq f 41 then some c41 else none) else (bif Nat.beq f 42 then some c42 else none)))) else (bif Nat.blt f 46 then (bif Nat.blt f 44 then (bif Nat.beq f 43 then some c43 else none) else (bif Nat.blt f 45 then (bif Nat.beq f 44 then some c44 else none) else (bif Nat.beq f 45 then some c45 else none))) else (bif Nat.blt f 47 then (bif Nat.beq f 46 then some c46 else none) else (bif Nat.blt f 48 then (bif Nat.beq f 47 then some c47 else none) else (bif Nat.beq f 48 then some c48 else none)))))) else (bif Nat.blt f 67 then (bif Nat.blt f 56 then (bif Nat.blt f 52 then (bif Nat.blt f 50 then (bif Nat.beq f 49 then some c49 else none) else (bif Nat.blt f 51 then (bif Nat.beq f 50 then some c50 else none) else (bif Nat.beq f 51 then some c51 else none))) else (bif Nat.blt f 53 then (bif Nat.beq f 52 then some c52 else none) else (bif Nat.blt f 54 then (bif Nat.beq f 53 then some c53 else none) else (bif Nat.beq f 54 then some c54 else none)))) else (bif Nat.blt f 62 then (bif Nat.blt f 60 then (bif Nat.beq f 56 then some c56 else none) else (bif Nat.blt f 61 then (bif Nat.beq f 60 then some c60 else none) else (bif Nat.beq f 61 then some c61 else none))) else (bif Nat.blt f 65 then (bif Nat.beq f 62 then some c62 else none) else (bif Nat.blt f 66 then (bif Nat.beq f 65 then some c65 else none) else (bif Nat.beq f 66 then some c66 else none))))) else (bif Nat.blt f 77 then (bif Nat.blt f 72 then (bif Nat.blt f 70 then (bif Nat.beq f 67 then some c67 else none) else (bif Nat.blt f 71 then (bif Nat.beq f 70 then some c70 else none) else (bif Nat.beq f 71 then some c71 else none))) else (bif Nat.blt f 75 then (bif Nat.beq f 72 then some c72 else none) else (bif Nat.blt f 76 then (bif Nat.beq f 75 then some c75 else none) else (bif Nat.beq f 76 then some c76 else none)))) else (bif Nat.blt f 80 then (bif Nat.blt f 78 then (bif Nat.beq f 77 then some c77 else none) else (bif Nat.blt f 79 then (bif Nat.beq f 78 then some c78 else none) else (bif Nat.beq f 79 then some c79 else none))) else (bif Nat.blt f 86 then (bif Nat.blt f 85 then (bif Nat.beq f 80 then some c80 else none) else (bif Nat.beq f 85 then some c85 else none)) else (bif Nat.blt f 87 then (bif Nat.beq f 86 then some c86 else none) else (bif Nat.beq f 87 then some c87 else none))))))) else (bif Nat.blt f 119 then (bif Nat.blt f 105 then (bif Nat.blt f 96 then (bif Nat.blt f 91 then (bif Nat.blt f 89 then (bif Nat.beq f 88 then some c88 else none) else (bif Nat.blt f 90 then (bif Nat.beq f 89 then some c89 else none) else (bif Nat.beq f 90 then some c90 else none))) else (bif Nat.blt f 92 then (bif Nat.beq f 91 then some c91 else none) else (bif Nat.blt f 93 then (bif Nat.beq f 92 then some c92 else none) else (bif Nat.beq f 93 then some c93 else none)))) else (bif Nat.blt f 102 then (bif Nat.blt f 98 then (bif Nat.beq f 96 then some c96 else none) else (bif Nat.blt f 101 then (bif Nat.beq f 98 then some c98 else none) else (bif Nat.beq f 101 then some c101 else none))) else (bif Nat.blt f 103 then (bif Nat.beq f 102 then some c102 else none) else (bif Nat.blt f 104 then (bif Nat.beq f 103 then some c103 else none) else (bif Nat.beq f 104 then some c104 else none))))) else (bif Nat.blt f 112 then (bif Nat.blt f 108 then (bif Nat.blt f 106 then (bif Nat.beq f 105 then some c105 else none) else (bif Nat.blt f 107 then (bif Nat.beq f 106 then some c106 else none) else (bif Nat.beq f 107 then some c107 else none))) else (bif Nat.blt f 110 then (bif Nat.beq f 108 then some c108 else none) else (bif Nat.blt f 111 then (bif Nat.beq f 110 then some c110 else none) else (bif Nat.beq f 111 then some c111 else none)))) else (bif Nat.blt f 115 then (bif Nat.blt f 113 then (bif Nat.beq f 112 then some c112 else none) else (bif Nat.blt f 114 then (bif Nat.beq f 113 then some c113 else none) else (bif Nat.beq f 114 then some c114 else none))) else (bif Nat.blt f 117 then (bif Nat.beq f 115 then some c115 else none) else (bif Nat.blt f 118 then (bif Nat.beq f 117 then some c117 else none) else (bif Nat.beq f 118 then some c118 else none)))))) else (bif Nat.blt f 131 then (bif Nat.blt f 125 then (bif Nat.blt f 122 then (bif Nat.blt f 120 then (bif Nat.beq f 119 then some c119 else none) else (bif Nat.blt f 121 then (bif Nat.beq f 120 then some c120 else none) else (bif Nat.beq f 121 then some c121 else none))) else (bif Nat.blt f 123 then (bif Nat.beq f 122 then some c122 else none) else (bif Nat.blt f 124 then (bif Nat.beq f 123 then some c123 else none) else (bif Nat.beq f 124 then some c124 else none)))) else (bif Nat.blt f 128 then (bif Nat.blt f 126 then (bif Nat.beq f 125 then some c125 else none) else (bif Nat.blt f 127 then (bif Nat.beq f 126 then some c126 else none) else (bif Nat.beq f 127 then some c127 else none))) else (bif Nat.blt f 129 then (bif Nat.beq f 128 then some c128 else none) else (bif Nat.blt f 130 then (bif Nat.beq f 129 then some c129 else none) else (bif Nat.beq f 130 then some c130 else none))))) else (bif Nat.blt f 137 then (bif Nat.blt f 134 then (bif Nat.blt f 132 then (bif Nat.beq f 131 then some c131 else none) else (bif Nat.blt f 133 then (bif Nat.beq f 132 then some c132 else none) else (bif Nat.beq f 133 then some c133 else none))) else (bif Nat.blt f 135 then (bif Nat.beq f 134 then some c134 else none) else (bif Nat.blt f 136 then (bif Nat.beq f 135 then some c135 else none) else (bif Nat.beq f 136 then some c136 else none)))) else (bif Nat.blt f 140 then (bif Nat.blt f 138 then (bif Nat.beq f 137 then some c137 else none) else (bif Nat.blt f 139 then (bif Nat.beq f 138 then some c138 else none) else (bif Nat.beq f 139 then some c139 else none))) else (bif Nat.blt f 142 then (bif Nat.blt f 141 then (bif Nat.beq f 140 then some c140 else none) else (bif Nat.beq f 141 then some c141 else none)) else (bif Nat.blt f 143 then (bif Nat.beq f 142 then some c142 else none) else (bif Nat.beq f 143 then some c143 else none))))))))
theorem kc9 : codeOf Tryd.prog 9 = some (28, [(.tmp 2, false, 0)], k9) := by kernel_rfl
theorem kc10 : codeOf Tryd.prog 10 = some (65, [(.tmp 4, false, 0), (.tmp 5, false, 0), (.tmp 6, false, 0), (.tmp 7, false, 0)], k10) := by kernel_rfl
theorem kc11 : codeOf Tryd.prog 11 = some (96, [(.tmp 0, false, 0)], k11) := by kernel_rfl
theorem kc12 : codeOf Tryd.prog 12 = some (45, [(.tmp 6, false, 0), (.tmp 7, false, 0), (.tmp 8, false, 0)], k12) := by kernel_rfl
theorem kc15 : codeOf Tryd.prog 15 = some (45, [(.tmp 6, false, 0), (.tmp 7, false, 0), (.tmp 8, false, 0)], k15) := by kernel_rfl
theorem kc18 : codeOf Tryd.prog 18 = some (26, [(.tmp 4, false, 0)], k18) := by kernel_rfl
theorem kc23 : codeOf Tryd.prog 23 = some (40, [(.tmp 4, false, 0)], k23) := by kernel_rfl
theorem kc25 : codeOf Tryd.prog 25 = some (24, [(.cell 2 40, true, 2), (.tmp 3, false, 0)], k25) := by kernel_rfl
theorem kc26 : codeOf Tryd.prog 26 = some (22, [(.tmp 2, false, 0)], k26) := by kernel_rfl
theorem kc27 : codeOf Tryd.prog 27 = some (42, [(.tmp 2, false, 0)], k27) := by kernel_rfl
theorem kc28 : codeOf Tryd.prog 28 = some (40, [(.tmp 2, false, 0)], k28) := by kernel_rfl
theorem kc29 : codeOf Tryd.prog 29 = some (25, [(.tmp 2, false, 0)], k29) := by kernel_rfl
theorem kc30 : codeOf Tryd.prog 30 = some (26, [(.tmp 4, false, 0)], k30) := by kernel_rfl
theorem kc32 : codeOf Tryd.prog 32 = some (26, [(.tmp 2, false, 0)], k32) := by kernel_rfl
theorem kc37 : codeOf Tryd.prog 37 = some (36, [(.tmp 2, false, 0), (.tmp 3, false, 0)], k37) := by kernel_rfl
theorem kc40 : codeOf Tryd.prog 40 = some (40, [(.tmp 2, false, 0), (.tmp 3, false, 0)], k40) := by kernel_rfl
theorem kc41 : codeOf Tryd.prog 41 = some (46, [(.tmp 2, false, 0), (.tmp 3, false, 0)], k41) := by kernel_rfl
theorem kc42 : codeOf Tryd.prog 42 = some (15, [(.tmp 6, false, 0)], k42) := by kernel_rfl
theorem kc43 : codeOf Tryd.prog 43 = some (21, [(.tmp 4, false, 0), (.tmp 5, false, 0), (.tmp 6, false, 0)], k43) := by kernel_rfl
theorem kc44 : codeOf Tryd.prog 44 = some (6, [(.tmp 0, false, 0)], k44) := by kernel_rfl
theorem kc45 : codeOf Tryd.prog 45 = some (26, [(.tmp 4, false, 0), (.tmp 5, false, 0)], k45) := by kernel_rfl
theorem kc46 : codeOf Tryd.prog 46 = some (26, [(.tmp 4, false, 0)], k46) := by kernel_rfl
theorem kc47 : codeOf Tryd.prog 47 = some (27, [(.tmp 4, false, 0)], k47) := by kernel_rfl
theorem kc48 : codeOf Tryd.prog 48 = some (49, [(.cell 6 76, true, 4), (.tmp 7, false, 0)], k48) := by kernel_rfl
theorem kc49 : codeOf Tryd.prog 49 = some (17, [(.tmp 6, false, 0)], k49) := by kernel_rfl
theorem kc50 : codeOf Tryd.prog 50 = some (36, [(.tmp 4, false, 0)], k50) := by kernel_rfl
theorem kc51 : codeOf Tryd.prog 51 = some (81, [(.cell 4 83, true, 2)], k51) := by kernel_rfl
theorem kc52 : codeOf Tryd.prog 52 = some (3, [(.tmp 2, false, 0)], k52) := by kernel_rfl
theorem kc53 : codeOf Tryd.prog 53 = some (101, [(.cell 2 40, true, 2), (.tmp 3, false, 0)], k53) := by kernel_rfl
theorem kc54 : codeOf Tryd.prog 54 = some (21, [(.tmp 2, false, 0)], k54) := by kernel_rfl
theorem kc56 : codeOf Tryd.prog 56 = some (19, [(.tmp 4, false, 0)], k56) := by kernel_rfl
theorem kc60 : codeOf Tryd.prog 60 = some (16, [(.tmp 4, false, 0)], k60) := by kernel_rfl
theorem kc61 : codeOf Tryd.prog 61 = some (27, [], k61) := by kernel_rfl
theorem kc62 : codeOf Tryd.prog 62 = some (58, [], k62) := by kernel_rfl
theorem kc65 : codeOf Tryd.prog 65 = some (49, [(.tmp 4, false, 0)], k65) := by kernel_rfl
theorem kc66 : codeOf Tryd.prog 66 = some (89, [(.tmp 2, false, 0)], k66) := by kernel_rfl
theorem kc67 : codeOf Tryd.prog 67 = some (15, [(.tmp 6, false, 0)], k67) := by kernel_rfl
theorem kc70 : codeOf Tryd.prog 70 = some (41, [(.cell 2 74, true, 2), (.tmp 3, false, 0)], k70) := by kernel_rfl
theorem kc71 : codeOf Tryd.prog 71 = some (7, [(.tmp 2, false, 0)], k71) := by kernel_rfl
theorem kc72 : codeOf Tryd.prog 72 = some (7, [(.tmp 2, false, 0)], k72) := by kernel_rfl
theorem kc75 : codeOf Tryd.prog 75 = some (19, [(.tmp 2, false, 0)], k75) := by kernel_rfl
theorem kc76 : codeOf Tryd.prog 76 = some (8, [(.tmp 2, false, 0)], k76) := by kernel_rfl
theorem kc77 : codeOf Tryd.prog 77 = some (4, [(.tmp 2, false, 0)], k77) := by kernel_rfl
theorem kc78 : codeOf Tryd.prog 78 = some (15, [(.tmp 4, false, 0)], k78) := by kernel_rfl
theorem kc79 : codeOf Tryd.prog 79 = some (42, [(.tmp 4, false, 0)], k79) := by kernel_rfl
theorem kc80 : codeOf Tryd.prog 80 = some (9, [(.tmp 3, false, 0)], k80) := by kernel_rfl
theorem kc85 : codeOf Tryd.prog 85 = some (7, [(.tmp 3, false, 0)], k85) := by kernel_rfl
theorem kc86 : codeOf Tryd.prog 86 = some (17, [(.tmp 4, false, 0)], k86) := by kernel_rfl
theorem kc87 : codeOf Tryd.prog 87 = some (22, [(.cell 2 40, true, 2), (.tmp 3, false, 0)], k87) := by kernel_rfl
theorem kc88 : codeOf Tryd.prog 88 = some (15, [(.cell 2 115, true, 4)], k88) := by kernel_rfl
theorem kc89 : codeOf Tryd.prog 89 = some (71, [(.tmp 4, false, 0)], k89) := by kernel_rfl
theorem kc90 : codeOf Tryd.prog 90 = some (69, [(.tmp 4, false, 0)], k90) := by kernel_rfl
theorem kc91 : codeOf Tryd.prog 91 = some (19, [(.tmp 4, false, 0)], k91) := by kernel_rfl
theorem kc92 : codeOf Tryd.prog 92 = some (28, [(.tmp 5, false, 0)], k92) := by kernel_rfl
theorem kc93 : codeOf Tryd.prog 93 = some (33, [(.tmp 4, false, 0)], k93) := by kernel_rfl
theorem kc96 : codeOf Tryd.prog 96 = some (31, [(.cell 2 74, true, 2)], k96) := by kernel_rfl
theorem kc98 : codeOf Tryd.prog 98 = some (54, [(.tmp 4, false, 0), (.tmp 5, false, 0)], k98) := by kernel_rfl
theorem kc101 : codeOf Tryd.prog 101 = some (12, [(.tmp 2, false, 0)], k101) := by kernel_rfl
theorem kc102 : codeOf Tryd.prog 102 = some (21, [], k102) := by kernel_rfl
theorem kc103 : codeOf Tryd.prog 103 = some (30, [(.tmp 2, false, 0)], k103) := by kernel_rfl
theorem kc104 : codeOf Tryd.prog 104 = some (11, [], k104) := by kernel_rfl
theorem kc105 : codeOf Tryd.prog 105 = some (61, [(.tmp 2, false, 0)], k105) := by kernel_rfl
theorem kc106 : codeOf Tryd.prog 106 = some (13, [(.tmp 3, false, 0)], k106) := by kernel_rfl
theorem kc107 : codeOf Tryd.prog 107 = some (19, [], k107) := by kernel_rfl
theorem kc108 : codeOf Tryd.prog 108 = some (19, [(.tmp 4, false, 0)], k108) := by kernel_rfl
theorem kc110 : codeOf Tryd.prog 110 = some (26, [(.tmp 4, false, 0)], k110) := by kernel_rfl
theorem kc111 : codeOf Tryd.prog 111 = some (32, [(.tmp 6, false, 0)], k111) := by kernel_rfl
theorem kc112 : codeOf Tryd.prog 112 = some (69, [(.tmp 4, false, 0), (.tmp 5, false, 0), (.tmp 6, false, 0)], k112) := by kernel_rfl
theorem kc113 : codeOf Tryd.prog 113 = some (15, [], k113) := by kernel_rfl
theorem kc114 : codeOf Tryd.prog 114 = some (30, [(.tmp 6, false, 0)], k114) := by kernel_rfl
theorem kc115 : codeOf Tryd.prog 115 = some (48, [(.tmp 4, false, 0)], k115) := by kernel_rfl
theorem kc117 : codeOf Tryd.prog 117 = some (17, [(.tmp 4, false, 0)], k117) := by kernel_rfl
theorem kc118 : codeOf Tryd.prog 118 = some (6, [(.tmp 2, false, 0)], k118) := by kernel_rfl
theorem kc119 : codeOf Tryd.prog 119 = some (63, [(.tmp 2, false, 0), (.tmp 3, false, 0)], k119) := by kernel_rfl
theorem kc120 : codeOf Tryd.prog 120 = some (18, [], k120) := by kernel_rfl
theorem kc121 : codeOf Tryd.prog 121 = some (14, [(.tmp 2, false, 0)], k121) := by kernel_rfl
theorem kc122 : codeOf Tryd.prog 122 = some (134, [], k122) := by kernel_rfl
theorem kc123 : codeOf Tryd.prog 123 = some (8, [(.tmp 2, false, 0)], k123) := by kernel_rfl
theorem kc124 : codeOf Tryd.prog 124 = some (30, [(.tmp 4, false, 0), (.tmp 5, false, 0)], k124) := by kernel_rfl
theorem kc125 : codeOf Tryd.prog 125 = some (6, [(.tmp 2, false, 0)], k125) := by kernel_rfl
theorem kc126 : codeOf Tryd.prog 126 = some (49, [], k126) := by kernel_rfl
theorem kc127 : codeOf Tryd.prog 127 = some (56, [], k127) := by kernel_rfl
theorem kc128 : codeOf Tryd.prog 128 = some (65, [], k128) := by kernel_rfl
theorem kc129 : codeOf Tryd.prog 129 = some (57, [(.tmp 6, false, 0), (.tmp 7, false, 0)], k129) := by kernel_rfl
theorem kc130 : codeOf Tryd.prog 130 = some (32, [], k130) := by kernel_rfl
theorem kc131 : codeOf Tryd.prog 131 = some (133, [(.tmp 6, false, 0)], k131) := by kernel_rfl
theorem kc132 : codeOf Tryd.prog 132 = some (84, [(.tmp 8, false, 0)], k132) := by kernel_rfl
theorem kc133 : codeOf Tryd.prog 133 = some (168, [(.tmp 8, false, 0), (.tmp 9, false, 0)], k133) := by kernel_rfl
theorem kc134 : codeOf Tryd.prog 134 = some (19, [(.tmp 2, false, 0)], k134) := by kernel_rfl
theorem kc135 : codeOf Tryd.prog 135 = some (25, [(.tmp 2, false, 0)], k135) := by kernel_rfl
theorem kc136 : codeOf Tryd.prog 136 = some (17, [(.tmp 4, false, 0), (.tmp 5, false, 0)], k136) := by kernel_rfl
theorem kc137 : codeOf Tryd.prog 137 = some (51, [(.tmp 4, false, 0), (.tmp 5, false, 0)], k137) := by kernel_rfl
theorem kc138 : codeOf Tryd.prog 138 = some (76, [], k138) := by kernel_rfl
theorem kc139 : codeOf Tryd.prog 139 = some (7, [(.tmp 2, false, 0)], k139) := by kernel_rfl
theorem kc140 : codeOf Tryd.prog 140 = some (33, [(.tmp 2, false, 0)], k140) := by kernel_rfl
theorem kc141 : codeOf Tryd.prog 141 = some (15, [(.tmp 6, false, 0)], k141) := by kernel_rfl
theorem kc142 : codeOf Tryd.prog 142 = some (36, [(.tmp 10, false, 0)], k142) := by kernel_rfl
theorem kc143 : codeOf Tryd.prog 143 = some (28, [(.tmp 8, false, 0), (.tmp 9, false, 0)], k143) := by kernel_rfl
end Go.Proofs.YtlkpikdfbodhoaaDoor
