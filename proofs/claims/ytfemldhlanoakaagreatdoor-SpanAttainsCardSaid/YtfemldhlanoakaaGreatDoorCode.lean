/- The small code of the functions of this program, as its own reader reads them: it is the program. -/
import Derived.Test.YtfemldhlanoakaaGreatDoorProg
import Derived.Test.YtfemldhlanoakaaGreatDoorCodeB
namespace Go.Proofs.YtfemldhlanoakaaGreatDoor
open Go Go.Em
set_option maxRecDepth 100000
def c3 : FnCode := ⟨63, false, [(.tmp 4, false, 0)], k3⟩
def c6 : FnCode := ⟨79, false, [(.tmp 8, false, 0), (.tmp 9, false, 0)], k6⟩
def c7 : FnCode := ⟨50, false, [(.tmp 8, false, 0), (.tmp 9, false, 0)], k7⟩
def c8 : FnCode := ⟨96, false, [(.tmp 0, false, 0)], k8⟩
def c9 : FnCode := ⟨26, false, [(.tmp 4, false, 0)], k9⟩
def c10 : FnCode := ⟨20, false, [(.tmp 4, false, 0)], k10⟩
def c12 : FnCode := ⟨22, false, [(.tmp 2, false, 0)], k12⟩
def c13 : FnCode := ⟨26, false, [(.tmp 4, false, 0), (.tmp 5, false, 0)], k13⟩
def c19 : FnCode := ⟨9, false, [(.tmp 4, false, 0)], k19⟩
def c21 : FnCode := ⟨49, false, [(.tmp 4, false, 0)], k21⟩
def c22 : FnCode := ⟨49, false, [(.cell 6 53, true, 4), (.tmp 7, false, 0)], k22⟩
def c23 : FnCode := ⟨17, false, [(.tmp 6, false, 0)], k23⟩
def c24 : FnCode := ⟨15, false, [(.tmp 6, false, 0)], k24⟩
def c25 : FnCode := ⟨15, true, [(.cell 2 60, true, 4)], k25⟩
def c26 : FnCode := ⟨15, true, [], k26⟩
def c27 : FnCode := ⟨71, true, [(.tmp 4, false, 0)], k27⟩
def c28 : FnCode := ⟨43, true, [], k28⟩
def c29 : FnCode := ⟨48, false, [(.tmp 6, false, 0), (.tmp 7, false, 0), (.tmp 8, false, 0)], k29⟩
def c30 : FnCode := ⟨98, false, [(.tmp 4, false, 0)], k30⟩
def c31 : FnCode := ⟨6, false, [(.tmp 0, false, 0)], k31⟩
def c32 : FnCode := ⟨45, false, [(.tmp 6, false, 0), (.tmp 7, false, 0), (.tmp 8, false, 0)], k32⟩
def c33 : FnCode := ⟨45, false, [(.tmp 6, false, 0), (.tmp 7, false, 0), (.tmp 8, false, 0)], k33⟩
def c34 : FnCode := ⟨36, true, [(.tmp 2, false, 0), (.tmp 3, false, 0)], k34⟩
def c35 : FnCode := ⟨26, false, [(.tmp 4, false, 0)], k35⟩
def c36 : FnCode := ⟨26, false, [(.tmp 4, false, 0)], k36⟩
def c37 : FnCode := ⟨26, false, [(.tmp 4, false, 0)], k37⟩
def c38 : FnCode := ⟨27, false, [(.tmp 4, false, 0)], k38⟩
def c39 : FnCode := ⟨19, false, [(.tmp 2, false, 0)], k39⟩
def c40 : FnCode := ⟨21, false, [(.tmp 2, false, 0)], k40⟩
def c41 : FnCode := ⟨26, false, [(.tmp 2, false, 0)], k41⟩
def c42 : FnCode := ⟨34, false, [(.tmp 4, false, 0)], k42⟩
def c43 : FnCode := ⟨25, false, [(.tmp 2, false, 0)], k43⟩
def c44 : FnCode := ⟨81, false, [(.cell 4 87, true, 2)], k44⟩
def c45 : FnCode := ⟨3, false, [(.tmp 2, false, 0)], k45⟩
def c47 : FnCode := ⟨40, false, [(.tmp 2, false, 0)], k47⟩
def c48 : FnCode := ⟨41, false, [(.cell 2 51, true, 2), (.tmp 3, false, 0)], k48⟩
def c50 : FnCode := ⟨101, false, [(.cell 2 49, true, 2), (.tmp 3, false, 0)], k50⟩
def c51 : FnCode := ⟨26, true, [(.tmp 2, false, 0)], k51⟩
def c53 : FnCode := ⟨19, true, [(.tmp 2, false, 0)], k53⟩
def c54 : FnCode := ⟨8, false, [(.tmp 2, false, 0)], k54⟩
def c56 : FnCode := ⟨15, true, [(.tmp 4, false, 0)], k56⟩
def c61 : FnCode := ⟨19, false, [(.tmp 4, false, 0)], k61⟩
def c65 : FnCode := ⟨16, false, [(.tmp 4, false, 0)], k65⟩
def c66 : FnCode := ⟨69, false, [(.tmp 4, false, 0), (.tmp 5, false, 0), (.tmp 6, false, 0)], k66⟩
def c67 : FnCode := ⟨30, false, [(.tmp 6, false, 0)], k67⟩
def c68 : FnCode := ⟨19, false, [(.tmp 4, false, 0)], k68⟩
def c69 : FnCode := ⟨5, false, [(.tmp 2, false, 0)], k69⟩
def c70 : FnCode := ⟨40, false, [(.cell 6 49, true, 2), (.tmp 7, false, 0)], k70⟩
def c71 : FnCode := ⟨12, false, [(.tmp 4, false, 0)], k71⟩
def c72 : FnCode := ⟨15, false, [(.tmp 4, false, 0)], k72⟩
def c73 : FnCode := ⟨36, false, [(.tmp 4, false, 0)], k73⟩
def c74 : FnCode := ⟨4, true, [(.tmp 2, false, 0)], k74⟩
def c75 : FnCode := ⟨42, true, [(.tmp 4, false, 0)], k75⟩
def c76 : FnCode := ⟨9, false, [(.tmp 3, false, 0)], k76⟩
def c77 : FnCode := ⟨65, false, [(.tmp 4, false, 0), (.tmp 5, false, 0), (.tmp 6, false, 0), (.tmp 7, false, 0)], k77⟩
def c78 : FnCode := ⟨15, false, [(.tmp 6, false, 0)], k78⟩
def c79 : FnCode := ⟨42, false, [(.tmp 2, false, 0)], k79⟩
def c80 : FnCode := ⟨7, false, [(.tmp 2, false, 0)], k80⟩
def c81 : FnCode := ⟨63, false, [(.tmp 2, false, 0), (.tmp 3, false, 0)], k81⟩
def c83 : FnCode := ⟨12, false, [(.tmp 2, false, 0)], k83⟩
def c84 : FnCode := ⟨31, true, [(.cell 2 51, true, 2)], k84⟩
def c85 : FnCode := ⟨27, true, [], k85⟩
def c86 : FnCode := ⟨58, true, [], k86⟩
def c88 : FnCode := ⟨89, true, [(.tmp 2, false, 0)], k88⟩
def c89 : FnCode := ⟨7, true, [(.tmp 2, false, 0)], k89⟩
def c91 : FnCode := ⟨13, false, [(.tmp 3, false, 0)], k91⟩
def c93 : FnCode := ⟨54, false, [(.tmp 4, false, 0), (.tmp 5, false, 0)], k93⟩
def c94 : FnCode := ⟨69, false, [(.tmp 4, false, 0)], k94⟩
def c95 : FnCode := ⟨19, false, [(.tmp 4, false, 0)], k95⟩
def c96 : FnCode := ⟨28, false, [(.tmp 5, false, 0)], k96⟩
def c97 : FnCode := ⟨33, false, [(.tmp 4, false, 0)], k97⟩
def c98 : FnCode := ⟨19, false, [], k98⟩
def c99 : FnCode := ⟨21, false, [(.tmp 4, false, 0), (.tmp 5, false, 0), (.tmp 6, false, 0)], k99⟩
def c100 : FnCode := ⟨21, true, [], k100⟩
def c101 : FnCode := ⟨30, false, [(.tmp 2, false, 0)], k101⟩
def c102 : FnCode := ⟨48, true, [(.tmp 4, false, 0)], k102⟩
def c103 : FnCode := ⟨11, true, [], k103⟩
def c104 : FnCode := ⟨61, true, [(.tmp 2, false, 0)], k104⟩
def c105 : FnCode := ⟨17, false, [(.tmp 4, false, 0)], k105⟩
def c106 : FnCode := ⟨6, false, [(.tmp 2, false, 0)], k106⟩
def c107 : FnCode := ⟨18, true, [], k107⟩
def c108 : FnCode := ⟨14, false, [(.tmp 2, false, 0)], k108⟩
def c109 : FnCode := ⟨30, false, [(.tmp 4, false, 0), (.tmp 5, false, 0)], k109⟩
def c110 : FnCode := ⟨134, true, [], k110⟩
def c111 : FnCode := ⟨8, false, [(.tmp 2, false, 0)], k111⟩
def c112 : FnCode := ⟨6, false, [(.tmp 2, false, 0)], k112⟩
def c113 : FnCode := ⟨17, false, [(.tmp 4, false, 0), (.tmp 5, false, 0)], k113⟩
def c114 : FnCode := ⟨51, false, [(.tmp 4, false, 0), (.tmp 5, false, 0)], k114⟩
def c115 : FnCode := ⟨49, true, [], k115⟩
def c116 : FnCode := ⟨56, true, [], k116⟩
def c117 : FnCode := ⟨65, true, [], k117⟩
def c118 : FnCode := ⟨57, true, [(.tmp 6, false, 0), (.tmp 7, false, 0)], k118⟩
def c119 : FnCode := ⟨32, true, [], k119⟩
def c120 : FnCode := ⟨133, true, [(.tmp 6, false, 0)], k120⟩
def c121 : FnCode := ⟨84, true, [(.tmp 8, false, 0)], k121⟩
def c122 : FnCode := ⟨168, true, [(.tmp 8, false, 0), (.tmp 9, false, 0)], k122⟩
def c123 : FnCode := ⟨19, false, [(.tmp 2, false, 0)], k123⟩
def c124 : FnCode := ⟨25, false, [(.tmp 2, false, 0)], k124⟩
def c125 : FnCode := ⟨76, true, [], k125⟩
def c126 : FnCode := ⟨7, false, [(.tmp 2, false, 0)], k126⟩
def c127 : FnCode := ⟨33, true, [(.tmp 2, false, 0)], k127⟩
def c128 : FnCode := ⟨15, true, [(.tmp 6, false, 0)], k128⟩
def c129 : FnCode := ⟨36, true, [(.tmp 10, false, 0)], k129⟩
def c130 : FnCode := ⟨28, true, [(.tmp 8, false, 0), (.tmp 9, false, 0)], k130⟩
def codes : List (Nat × FnCode) := [(3, c3), (6, c6), (7, c7), (8, c8), (9, c9), (10, c10), (12, c12), (13, c13), (19, c19), (21, c21), (22, c22), (23, c23), (24, c24), (25, c25), (26, c26), (27, c27), (28, c28), (29, c29), (30, c30), (31, c31), (32, c32), (33, c33), (34, c34), (35, c35), (36, c36), (37, c37), (38, c38), (39, c39), (40, c40), (41, c41), (42, c42), (43, c43), (44, c44), (45, c45), (47, c47), (48, c48), (50, c50), (51, c51), (53, c53), (54, c54), (56, c56), (61, c61), (65, c65), (66, c66), (67, c67), (68, c68), (69, c69), (70, c70), (71, c71), (72, c72), (73, c73), (74, c74), (75, c75), (76, c76), (77, c77), (78, c78), (79, c79), (80, c80), (81, c81), (83, c83), (84, c84), (85, c85), (86, c86), (88, c88), (89, c89), (91, c91), (93, c93), (94, c94), (95, c95), (96, c96), (97, c97), (98, c98), (99, c99), (100, c100), (101, c101), (102, c102), (103, c103), (104, c104), (105, c105), (106, c106), (107, c107), (108, c108), (109, c109), (110, c110), (111, c111), (112, c112), (113, c113), (114, c114), (115, c115), (116, c116), (117, c117), (118, c118), (119, c119), (120, c120), (121, c121), (122, c122), (123, c123), (124, c124), (125, c125), (126, c126), (127, c127), (128, c128), (129, c129), (130, c130)]
def codeAt (f : Nat) : Option FnCode := (bif Nat.blt f 75 then (bif Nat.blt f 38 then (bif Nat.blt f 25 then (bif Nat.blt f 12 then (bif Nat.blt f 8 then (bif Nat.blt f 6 then (bif Nat.beq f 3 then some c3 else none) else (bif Nat.blt f 7 then (bif Nat.beq f 6 then some c6 else none) else (bif Nat.beq f 7 then some c7 else none))) else (bif Nat.blt f 9 then (bif Nat.beq f 8 then some c8 else none) else (bif Nat.blt f 10 then (bif Nat.beq f 9 then some c9 else none) else (bif Nat.beq f 10 then some c10 else none)))) else (bif Nat.blt f 21 then (bif Nat.blt f 13 then (bif Nat.beq f 12 then some c12 else none) else (bif Nat.blt f 19 then (bif Nat.beq f 13 then some c13 else none) else (bif Nat.beq f 19 then some c19 else none))) else (bif Nat.blt f 23 then (bif Nat.blt f 22 then (bif Nat.beq f 21 then some c21 else none) else (bif Nat.beq f 22 then some c22 else none)) else (bif Nat.blt f 24 then (bif Nat.beq f 23 then some c23 else none) else (bif Nat.beq f 24 then some c24 else none))))) else (bif Nat.blt f 31 then (bif Nat.blt f 28 then (bif Nat.blt f 26 then (bif Nat.beq f 25 then some c25 else none) else (bif Nat.blt f 27 then (bif Nat.beq f 26 then some c26 else none) else (bif Nat.beq f 27 then some c27 else none))) else (bif Nat.blt f 29 then (bif Nat.beq f 28 then some c28 else none) else (bif Nat.blt f 30 then (bif Nat.beq f 29 then some c29 else none) else (bif Nat.beq f 30 then some c30 else none)))) else (bif Nat.blt f 34 then (bif Nat.blt f 32 then (bif Nat.beq f 31 then some c31 else none) else (bif Nat.blt f 33 then (bif Nat.beq f 32 then some c32 else none) else (bif Nat.beq f 33 then some c33 else none))) else (bif Nat.blt f 36 then (bif Nat.blt f 35 then (bif Nat.beq f 34 then some c34 else none) else (bif Nat.beq f 35 then some c35 else none)) else (bif Nat.blt f 37 then (bif Nat.beq f 36 then some c36 else none) else (bif Nat.beq f 37 then some c37 else none)))))) else (bif Nat.blt f 54 then (bif Nat.blt f 44 then (bif Nat.blt f 41 then (bif Nat.blt f 39 then (bif Nat.beq f 38 then some c38 else none) else (bif Nat.blt f 40 then (bif Nat.beq f 39 then some c39 else none) else (bif Nat.beq f 40 then some c40 else none))) else (bif Nat.blt f 42 then (bif Nat.beq f 41 then some c41 else none) else (bif Nat.blt f 43 then (bif Nat.beq f 42 then some c42 else none) else (bif Nat.beq f 43 then some c43 else none)))) else (bif Nat.blt f 48 then (bif Nat.blt f 45 then (bif Nat.beq f 44 then some c44 else none) else (bif Nat.blt f 47 then (bif Nat.beq f 45 then some c45 else none) else (bif Nat.beq f 47 then some c47 else none))) else (bif Nat.blt f 51 then (bif Nat.blt f 50 then (bif Nat.beq f 48 then some c48 else none) else (bif Nat.beq f 50 then some c50 else none)) else (bif Nat.blt f 53 then (bif Nat.beq f 51 then some c51 else none) else (bif Nat.beq f 53 then some c53 else none))))) else (bif Nat.blt f 68 then (bif Nat.blt f 65 then (bif Nat.blt f 56 then (bif Nat.beq f 54 then some c54 else none) else (bif Nat.blt f 61 then (bif Nat.beq f 56 then some c56 else none) else (bif Nat.beq f 61 then some c61 else none))) else (bif Nat.blt f 66 then (bif Nat.beq f 65 then some c65 else none) else (bif Nat.blt f 67 then (bif Nat.beq f 66 then some c66 else none) else (bif Nat.beq f 67 then some c67 else none)))) else (bif Nat.blt f 71 then (bif Nat.blt f 69 then (bif Nat.beq f 68 then some c68 else none) else (bif Nat.blt f 70 then (bif Nat.beq f 69 then some c69 else none) else (bif Nat.beq f 70 then some c70 else none))) else (bif Nat.blt f 73 then (bif Nat.blt f 72 then (bif Nat.beq f 71 then some c71 else none) else (bif Nat.beq f 72 then some c72 else none)) else (bif Nat.blt f 74 then (bif Nat.beq f 73 then some c73 else none) else (bif Nat.beq f 74 then some c74 else none))))))) else (bif Nat.blt f 105 then (bif Nat.blt f 91 then (bif Nat.blt f 81 then (bif Nat.blt f 78 then (bif Nat.blt f 76 then (bif Nat.beq f 75 then some c75 else none) else (bif Nat.blt f 77 then (bif Nat.beq f 76 then some c76 else none) else (bif Nat.beq f 77 then some c77 else none))) else (bif Nat.blt f 79 then (bif Nat.beq f 78 then some c78 else none) else (bif Nat.blt f 80 then (bif Nat.beq f 79 then some c79 else none) else (bif Nat.beq f 80 then some c80 else none)))) else (bif Nat.blt f 85 then (bif Nat.blt f 83 then (bif Nat.beq f 81 then some c81 else none) else (bif Nat.blt f 84 then (bif Nat.beq f 83 then some c83 else none) else (bif Nat.beq f 84 then some c84 else none))) else (bif Nat.blt f 88 then (bif Nat.blt f 86 then (bif Nat.beq f 85 then some c85 else none) else (bif Nat.beq f 86 then some c86 else none)) else (bif Nat.blt f 89 then (bif Nat.beq f 88 then some c88 else none) else (bif Nat.beq f 89 then some c89 else none))))) else (bif Nat.blt f 98 then (bif Nat.blt f 95 then (bif Nat.blt f 93 then (bif Nat.beq f 91 then some c91 else none) else (bif Nat.blt f 94 then (bif Nat.beq f 93 then some c93 else none) else (bif Nat.beq f 94 then some c94 else none))) else (bif Nat.blt f 96 then (bif Nat.beq f 95 then some c95 else none) else (bif Nat.blt f 97 then (bif Nat.beq f 96 then some c96 else none) else (bif Nat.beq f 97 then some c97 else none)))) else (bif Nat.blt f 101 then (bif Nat.blt f 99 then (bif Nat.beq f 98 then some c98 else none) else (bif Nat.blt f 100 then (bif Nat.beq f 99 then some c99 else none) else (bif Nat.beq f 100 then some c100 else none))) else (bif Nat.blt f 103 then (bif Nat.blt f 102 then (bif Nat.beq f 101 then some c101 else none) else (bif Nat.beq f 102 then some c102 else none)) else (bif Nat.blt f 104 then (bif Nat.beq f 103 then some c103 else none) else (bif Nat.beq f 104 then some c104 else none)))))) else (bif Nat.blt f 118 then (bif Nat.blt f 111 then (bif Nat.blt f 108 then (bif Nat.blt f 106 then (bif Nat.beq f 105 then some c105 else none) else (bif Nat.blt f 107 then (bif Nat.beq f 106 then some c106 else none) else (bif Nat.beq f 107 then some c107 else none))) else (bif Nat.blt f 109 then (bif Nat.beq f 108 then some c108 else none) else (bif Nat.blt f 110 then (bif Nat.beq f 109 then some c109 else none) else (bif Nat.beq f 110 then some c110 else none)))) else (bif Nat.blt f 114 then (bif Nat.blt f 112 then (bif Nat.beq f 111 then some c111 else none) else (bif Nat.blt f 113 then (bif Nat.beq f 112 then some c112 else none) else (bif Nat.beq f 113 then some c113 else none))) else (bif Nat.blt f 116 then (bif Nat.blt f 115 then (bif Nat.beq f 114 then some c114 else none) else (bif Nat.beq f 115 then some c115 else none)) else (bif Nat.blt f 117 then (bif Nat.beq f 116 then some c116 else none) else (bif Nat.beq f 117 then some c117 else none))))) else (bif Nat.blt f 124 then (bif Nat.blt f 121 then (bif Nat.blt f 119 then (bif Nat.beq f 118 then some c118 else none) else (bif Nat.blt f 120 then (bif Nat.beq f 119 then some c119 else none) else (bif Nat.beq f 120 then some c120 else none))) else (bif Nat.blt f 122 then (bif Nat.beq f 121 then some c121 else none) else (bif Nat.blt f 123 then (bif Nat.beq f 122 then some c122 else none) else (bif Nat.beq f 123 then some c123 else none)))) else (bif Nat.blt f 127 then (bif Nat.blt f 125 then (bif Nat.beq f 124 then some c124 else none) else (bif Nat.blt f 126 then (bif Nat.beq f 125 then some c125 else none) else (bif Nat.beq f 126 then some c126 else none))) else (bif Nat.blt f 129 then (bif Nat.blt f 128 then (bif Nat.beq f 127 then some c127 else none) else (bif Nat.beq f 128 then some c128 else none)) else (bif Nat.blt f 130 then (bif Nat.beq f 129 then some c129 else none) else (bif Nat.beq f 130 then some c130 else none))))))))
theorem kc3 : codeOf Tryz.prog 3 = some (63, [(.tmp 4, false, 0)], k3) := by kernel_rfl
theorem kc6 : codeOf Tryz.prog 6 = some (79, [(.tmp 8, false, 0), (.tmp 9, false, 0)], k6) := by kernel_rfl
theorem kc7 : codeOf Tryz.prog 7 = some (50, [(.tmp 8, false, 0), (.tmp 9, false, 0)], k7) := by kernel_rfl
theorem kc8 : codeOf Tryz.prog 8 = some (96, [(.tmp 0, false, 0)], k8) := by kernel_rfl
theorem kc9 : codeOf Tryz.prog 9 = some (26, [(.tmp 4, false, 0)], k9) := by kernel_rfl
theorem kc10 : codeOf Tryz.prog 10 = some (20, [(.tmp 4, false, 0)], k10) := by kernel_rfl
theorem kc12 : codeOf Tryz.prog 12 = some (22, [(.tmp 2, false, 0)], k12) := by kernel_rfl
theorem kc13 : codeOf Tryz.prog 13 = some (26, [(.tmp 4, false, 0), (.tmp 5, false, 0)], k13) := by kernel_rfl
theorem kc19 : codeOf Tryz.prog 19 = some (9, [(.tmp 4, false, 0)], k19) := by kernel_rfl
theorem kc21 : codeOf Tryz.prog 21 = some (49, [(.tmp 4, false, 0)], k21) := by kernel_rfl
theorem kc22 : codeOf Tryz.prog 22 = some (49, [(.cell 6 53, true, 4), (.tmp 7, false, 0)], k22) := by kernel_rfl
theorem kc23 : codeOf Tryz.prog 23 = some (17, [(.tmp 6, false, 0)], k23) := by kernel_rfl
theorem kc24 : codeOf Tryz.prog 24 = some (15, [(.tmp 6, false, 0)], k24) := by kernel_rfl
theorem kc25 : codeOf Tryz.prog 25 = some (15, [(.cell 2 60, true, 4)], k25) := by kernel_rfl
theorem kc26 : codeOf Tryz.prog 26 = some (15, [], k26) := by kernel_rfl
theorem kc27 : codeOf Tryz.prog 27 = some (71, [(.tmp 4, false, 0)], k27) := by kernel_rfl
theorem kc28 : codeOf Tryz.prog 28 = some (43, [], k28) := by kernel_rfl
theorem kc29 : codeOf Tryz.prog 29 = some (48, [(.tmp 6, false, 0), (.tmp 7, false, 0), (.tmp 8, false, 0)], k29) := by kernel_rfl
theorem kc30 : codeOf Tryz.prog 30 = some (98, [(.tmp 4, false, 0)], k30) := by kernel_rfl
theorem kc31 : codeOf Tryz.prog 31 = some (6, [(.tmp 0, false, 0)], k31) := by kernel_rfl
theorem kc32 : codeOf Tryz.prog 32 = some (45, [(.tmp 6, false, 0), (.tmp 7, false, 0), (.tmp 8, false, 0)], k32) := by kernel_rfl
theorem kc33 : codeOf Tryz.prog 33 = some (45, [(.tmp 6, false, 0), (.tmp 7, false, 0), (.tmp 8, false, 0)], k33) := by kernel_rfl
theorem kc34 : codeOf Tryz.prog 34 = some (36, [(.tmp 2, false, 0), (.tmp 3, false, 0)], k34) := by kernel_rfl
theorem kc35 : codeOf Tryz.prog 35 = some (26, [(.tmp 4, false, 0)], k35) := by kernel_rfl
theorem kc36 : codeOf Tryz.prog 36 = some (26, [(.tmp 4, false, 0)], k36) := by kernel_rfl
theorem kc37 : codeOf Tryz.prog 37 = some (26, [(.tmp 4, false, 0)], k37) := by kernel_rfl
theorem kc38 : codeOf Tryz.prog 38 = some (27, [(.tmp 4, false, 0)], k38) := by kernel_rfl
theorem kc39 : codeOf Tryz.prog 39 = some (19, [(.tmp 2, false, 0)], k39) := by kernel_rfl
theorem kc40 : codeOf Tryz.prog 40 = some (21, [(.tmp 2, false, 0)], k40) := by kernel_rfl
theorem kc41 : codeOf Tryz.prog 41 = some (26, [(.tmp 2, false, 0)], k41) := by kernel_rfl
theorem kc42 : codeOf Tryz.prog 42 = some (34, [(.tmp 4, false, 0)], k42) := by kernel_rfl
theorem kc43 : codeOf Tryz.prog 43 = some (25, [(.tmp 2, false, 0)], k43) := by kernel_rfl
theorem kc44 : codeOf Tryz.prog 44 = some (81, [(.cell 4 87, true, 2)], k44) := by kernel_rfl
theorem kc45 : codeOf Tryz.prog 45 = some (3, [(.tmp 2, false, 0)], k45) := by kernel_rfl
theorem kc47 : codeOf Tryz.prog 47 = some (40, [(.tmp 2, false, 0)], k47) := by kernel_rfl
theorem kc48 : codeOf Tryz.prog 48 = some (41, [(.cell 2 51, true, 2), (.tmp 3, false, 0)], k48) := by kernel_rfl
theorem kc50 : codeOf Tryz.prog 50 = some (101, [(.cell 2 49, true, 2), (.tmp 3, false, 0)], k50) := by kernel_rfl
theorem kc51 : codeOf Tryz.prog 51 = some (26, [(.tmp 2, false, 0)], k51) := by kernel_rfl
theorem kc53 : codeOf Tryz.prog 53 = some (19, [(.tmp 2, false, 0)], k53) := by kernel_rfl
theorem kc54 : codeOf Tryz.prog 54 = some (8, [(.tmp 2, false, 0)], k54) := by kernel_rfl
theorem kc56 : codeOf Tryz.prog 56 = some (15, [(.tmp 4, false, 0)], k56) := by kernel_rfl
theorem kc61 : codeOf Tryz.prog 61 = some (19, [(.tmp 4, false, 0)], k61) := by kernel_rfl
theorem kc65 : codeOf Tryz.prog 65 = some (16, [(.tmp 4, false, 0)], k65) := by kernel_rfl
theorem kc66 : codeOf Tryz.prog 66 = some (69, [(.tmp 4, false, 0), (.tmp 5, false, 0), (.tmp 6, false, 0)], k66) := by kernel_rfl
theorem kc67 : codeOf Tryz.prog 67 = some (30, [(.tmp 6, false, 0)], k67) := by kernel_rfl
theorem kc68 : codeOf Tryz.prog 68 = some (19, [(.tmp 4, false, 0)], k68) := by kernel_rfl
theorem kc69 : codeOf Tryz.prog 69 = some (5, [(.tmp 2, false, 0)], k69) := by kernel_rfl
theorem kc70 : codeOf Tryz.prog 70 = some (40, [(.cell 6 49, true, 2), (.tmp 7, false, 0)], k70) := by kernel_rfl
theorem kc71 : codeOf Tryz.prog 71 = some (12, [(.tmp 4, false, 0)], k71) := by kernel_rfl
theorem kc72 : codeOf Tryz.prog 72 = some (15, [(.tmp 4, false, 0)], k72) := by kernel_rfl
theorem kc73 : codeOf Tryz.prog 73 = some (36, [(.tmp 4, false, 0)], k73) := by kernel_rfl
theorem kc74 : codeOf Tryz.prog 74 = some (4, [(.tmp 2, false, 0)], k74) := by kernel_rfl
theorem kc75 : codeOf Tryz.prog 75 = some (42, [(.tmp 4, false, 0)], k75) := by kernel_rfl
theorem kc76 : codeOf Tryz.prog 76 = some (9, [(.tmp 3, false, 0)], k76) := by kernel_rfl
theorem kc77 : codeOf Tryz.prog 77 = some (65, [(.tmp 4, false, 0), (.tmp 5, false, 0), (.tmp 6, false, 0), (.tmp 7, false, 0)], k77) := by kernel_rfl
theorem kc78 : codeOf Tryz.prog 78 = some (15, [(.tmp 6, false, 0)], k78) := by kernel_rfl
theorem kc79 : codeOf Tryz.prog 79 = some (42, [(.tmp 2, false, 0)], k79) := by kernel_rfl
theorem kc80 : codeOf Tryz.prog 80 = some (7, [(.tmp 2, false, 0)], k80) := by kernel_rfl
theorem kc81 : codeOf Tryz.prog 81 = some (63, [(.tmp 2, false, 0), (.tmp 3, false, 0)], k81) := by kernel_rfl
theorem kc83 : codeOf Tryz.prog 83 = some (12, [(.tmp 2, false, 0)], k83) := by kernel_rfl
theorem kc84 : codeOf Tryz.prog 84 = some (31, [(.cell 2 51, true, 2)], k84) := by kernel_rfl
theorem kc85 : codeOf Tryz.prog 85 = some (27, [], k85) := by kernel_rfl
theorem kc86 : codeOf Tryz.prog 86 = some (58, [], k86) := by kernel_rfl
theorem kc88 : codeOf Tryz.prog 88 = some (89, [(.tmp 2, false, 0)], k88) := by kernel_rfl
theorem kc89 : codeOf Tryz.prog 89 = some (7, [(.tmp 2, false, 0)], k89) := by kernel_rfl
theorem kc91 : codeOf Tryz.prog 91 = some (13, [(.tmp 3, false, 0)], k91) := by kernel_rfl
theorem kc93 : codeOf Tryz.prog 93 = some (54, [(.tmp 4, false, 0), (.tmp 5, false, 0)], k93) := by kernel_rfl
theorem kc94 : codeOf Tryz.prog 94 = some (69, [(.tmp 4, false, 0)], k94) := by kernel_rfl
theorem kc95 : codeOf Tryz.prog 95 = some (19, [(.tmp 4, false, 0)], k95) := by kernel_rfl
theorem kc96 : codeOf Tryz.prog 96 = some (28, [(.tmp 5, false, 0)], k96) := by kernel_rfl
theorem kc97 : codeOf Tryz.prog 97 = some (33, [(.tmp 4, false, 0)], k97) := by kernel_rfl
theorem kc98 : codeOf Tryz.prog 98 = some (19, [], k98) := by kernel_rfl
theorem kc99 : codeOf Tryz.prog 99 = some (21, [(.tmp 4, false, 0), (.tmp 5, false, 0), (.tmp 6, false, 0)], k99) := by kernel_rfl
theorem kc100 : codeOf Tryz.prog 100 = some (21, [], k100) := by kernel_rfl
theorem kc101 : codeOf Tryz.prog 101 = some (30, [(.tmp 2, false, 0)], k101) := by kernel_rfl
theorem kc102 : codeOf Tryz.prog 102 = some (48, [(.tmp 4, false, 0)], k102) := by kernel_rfl
theorem kc103 : codeOf Tryz.prog 103 = some (11, [], k103) := by kernel_rfl
theorem kc104 : codeOf Tryz.prog 104 = some (61, [(.tmp 2, false, 0)], k104) := by kernel_rfl
theorem kc105 : codeOf Tryz.prog 105 = some (17, [(.tmp 4, false, 0)], k105) := by kernel_rfl
theorem kc106 : codeOf Tryz.prog 106 = some (6, [(.tmp 2, false, 0)], k106) := by kernel_rfl
theorem kc107 : codeOf Tryz.prog 107 = some (18, [], k107) := by kernel_rfl
theorem kc108 : codeOf Tryz.prog 108 = some (14, [(.tmp 2, false, 0)], k108) := by kernel_rfl
theorem kc109 : codeOf Tryz.prog 109 = some (30, [(.tmp 4, false, 0), (.tmp 5, false, 0)], k109) := by kernel_rfl
theorem kc110 : codeOf Tryz.prog 110 = some (134, [], k110) := by kernel_rfl
theorem kc111 : codeOf Tryz.prog 111 = some (8, [(.tmp 2, false, 0)], k111) := by kernel_rfl
theorem kc112 : codeOf Tryz.prog 112 = some (6, [(.tmp 2, false, 0)], k112) := by kernel_rfl
theorem kc113 : codeOf Tryz.prog 113 = some (17, [(.tmp 4, false, 0), (.tmp 5, false, 0)], k113) := by kernel_rfl
theorem kc114 : codeOf Tryz.prog 114 = some (51, [(.tmp 4, false, 0), (.tmp 5, false, 0)], k114) := by kernel_rfl
theorem kc115 : codeOf Tryz.prog 115 = some (49, [], k115) := by kernel_rfl
theorem kc116 : codeOf Tryz.prog 116 = some (56, [], k116) := by kernel_rfl
theorem kc117 : codeOf Tryz.prog 117 = some (65, [], k117) := by kernel_rfl
theorem kc118 : codeOf Tryz.prog 118 = some (57, [(.tmp 6, false, 0), (.tmp 7, false, 0)], k118) := by kernel_rfl
theorem kc119 : codeOf Tryz.prog 119 = some (32, [], k119) := by kernel_rfl
theorem kc120 : codeOf Tryz.prog 120 = some (133, [(.tmp 6, false, 0)], k120) := by kernel_rfl
theorem kc121 : codeOf Tryz.prog 121 = some (84, [(.tmp 8, false, 0)], k121) := by kernel_rfl
theorem kc122 : codeOf Tryz.prog 122 = some (168, [(.tmp 8, false, 0), (.tmp 9, false, 0)], k122) := by kernel_rfl
theorem kc123 : codeOf Tryz.prog 123 = some (19, [(.tmp 2, false, 0)], k123) := by kernel_rfl
theorem kc124 : codeOf Tryz.prog 124 = some (25, [(.tmp 2, false, 0)], k124) := by kernel_rfl
theorem kc125 : codeOf Tryz.prog 125 = some (76, [], k125) := by kernel_rfl
theorem kc126 : codeOf Tryz.prog 126 = some (7, [(.tmp 2, false, 0)], k126) := by kernel_rfl
theorem kc127 : codeOf Tryz.prog 127 = some (33, [(.tmp 2, false, 0)], k127) := by kernel_rfl
theorem kc128 : codeOf Tryz.prog 128 = some (15, [(.tmp 6, false, 0)], k128) := by kernel_rfl
theorem kc129 : codeOf Tryz.prog 129 = some (36, [(.tmp 10, false, 0)], k129) := by kernel_rfl
theorem kc130 : codeOf Tryz.prog 130 = some (28, [(.tmp 8, false, 0), (.tmp 9, false, 0)], k130) := by kernel_rfl
end Go.Proofs.YtfemldhlanoakaaGreatDoor
