/- The small code of the functions of this program, as its own reader reads them: it is the program. -/
import Derived.Test.YtmncdmpeeibgmaaGreatDoorProg
import Derived.Test.YtmncdmpeeibgmaaGreatDoorCodeB
namespace Go.Proofs.YtmncdmpeeibgmaaGreatDoor
open Go Go.Em
set_option maxRecDepth 100000
def c3 : FnCode := ⟨33, false, [(.tmp 2, false, 0)], k3⟩
def c5 : FnCode := ⟨43, false, [(.tmp 2, false, 0)], k5⟩
def c6 : FnCode := ⟨52, false, [(.tmp 2, false, 0)], k6⟩
def c7 : FnCode := ⟨66, false, [(.tmp 2, false, 0)], k7⟩
def c8 : FnCode := ⟨69, false, [(.tmp 2, false, 0)], k8⟩
def c9 : FnCode := ⟨26, false, [(.tmp 4, false, 0)], k9⟩
def c10 : FnCode := ⟨29, false, [(.tmp 2, false, 0)], k10⟩
def c11 : FnCode := ⟨25, false, [(.tmp 2, false, 0)], k11⟩
def c12 : FnCode := ⟨83, false, [(.tmp 0, false, 0)], k12⟩
def c13 : FnCode := ⟨42, false, [(.tmp 4, false, 0), (.tmp 5, false, 0)], k13⟩
def c19 : FnCode := ⟨15, false, [(.tmp 6, false, 0)], k19⟩
def c20 : FnCode := ⟨42, false, [(.tmp 2, false, 0)], k20⟩
def c21 : FnCode := ⟨40, false, [(.tmp 2, false, 0)], k21⟩
def c22 : FnCode := ⟨25, false, [(.tmp 2, false, 0)], k22⟩
def c23 : FnCode := ⟨19, false, [(.tmp 2, false, 0)], k23⟩
def c24 : FnCode := ⟨30, false, [(.tmp 2, false, 0)], k24⟩
def c25 : FnCode := ⟨22, false, [(.tmp 2, false, 0)], k25⟩
def c26 : FnCode := ⟨31, false, [(.tmp 2, false, 0)], k26⟩
def c27 : FnCode := ⟨26, true, [(.tmp 2, false, 0)], k27⟩
def c28 : FnCode := ⟨11, true, [], k28⟩
def c29 : FnCode := ⟨61, true, [(.tmp 2, false, 0)], k29⟩
def c30 : FnCode := ⟨8, false, [(.tmp 2, false, 0)], k30⟩
def c31 : FnCode := ⟨49, false, [(.tmp 4, false, 0)], k31⟩
def c32 : FnCode := ⟨17, false, [(.cell 0 25, true, 2)], k32⟩
def c33 : FnCode := ⟨15, false, [(.tmp 2, false, 0), (.tmp 3, false, 0)], k33⟩
def c34 : FnCode := ⟨25, false, [(.tmp 6, false, 0), (.tmp 7, false, 0)], k34⟩
def c35 : FnCode := ⟨51, false, [(.tmp 4, false, 0), (.tmp 5, false, 0), (.tmp 6, false, 0)], k35⟩
def c36 : FnCode := ⟨21, false, [(.tmp 4, false, 0), (.tmp 5, false, 0)], k36⟩
def c37 : FnCode := ⟨27, false, [(.tmp 4, false, 0)], k37⟩
def c38 : FnCode := ⟨26, false, [(.tmp 4, false, 0)], k38⟩
def c39 : FnCode := ⟨26, false, [(.tmp 4, false, 0)], k39⟩
def c40 : FnCode := ⟨31, false, [(.tmp 4, false, 0)], k40⟩
def c46 : FnCode := ⟨8, true, [(.tmp 2, false, 0)], k46⟩
def c50 : FnCode := ⟨15, false, [(.tmp 6, false, 0)], k50⟩
def c51 : FnCode := ⟨15, false, [(.tmp 6, false, 0)], k51⟩
def c52 : FnCode := ⟨7, false, [(.tmp 2, false, 0)], k52⟩
def c53 : FnCode := ⟨21, true, [], k53⟩
def c54 : FnCode := ⟨30, false, [(.tmp 2, false, 0)], k54⟩
def c55 : FnCode := ⟨21, false, [(.tmp 2, false, 0)], k55⟩
def c56 : FnCode := ⟨22, false, [(.tmp 4, false, 0)], k56⟩
def c57 : FnCode := ⟨7, true, [(.tmp 2, false, 0)], k57⟩
def c58 : FnCode := ⟨134, true, [], k58⟩
def c59 : FnCode := ⟨8, false, [(.tmp 2, false, 0)], k59⟩
def c60 : FnCode := ⟨18, false, [(.tmp 2, false, 0)], k60⟩
def c61 : FnCode := ⟨8, true, [], k61⟩
def c62 : FnCode := ⟨10, true, [(.tmp 5, false, 0)], k62⟩
def c63 : FnCode := ⟨26, false, [(.tmp 6, false, 0)], k63⟩
def c64 : FnCode := ⟨25, true, [(.tmp 7, false, 0)], k64⟩
def c65 : FnCode := ⟨28, false, [(.cell 6 68, true, 2)], k65⟩
def c66 : FnCode := ⟨49, false, [(.tmp 2, false, 0)], k66⟩
def c67 : FnCode := ⟨30, false, [(.tmp 6, false, 0)], k67⟩
def c68 : FnCode := ⟨36, false, [(.tmp 2, false, 0)], k68⟩
def c69 : FnCode := ⟨26, false, [(.tmp 4, false, 0), (.tmp 5, false, 0)], k69⟩
def c70 : FnCode := ⟨28, false, [(.tmp 4, false, 0)], k70⟩
def c71 : FnCode := ⟨36, true, [(.tmp 2, false, 0), (.tmp 3, false, 0)], k71⟩
def c78 : FnCode := ⟨18, true, [], k78⟩
def c79 : FnCode := ⟨14, false, [(.tmp 2, false, 0)], k79⟩
def c80 : FnCode := ⟨49, true, [], k80⟩
def c81 : FnCode := ⟨56, true, [], k81⟩
def c82 : FnCode := ⟨65, true, [], k82⟩
def c83 : FnCode := ⟨57, true, [(.tmp 6, false, 0), (.tmp 7, false, 0)], k83⟩
def c84 : FnCode := ⟨32, true, [], k84⟩
def c85 : FnCode := ⟨133, true, [(.tmp 6, false, 0)], k85⟩
def c86 : FnCode := ⟨17, false, [(.tmp 4, false, 0)], k86⟩
def c87 : FnCode := ⟨84, true, [(.tmp 8, false, 0)], k87⟩
def c88 : FnCode := ⟨168, true, [(.tmp 8, false, 0), (.tmp 9, false, 0)], k88⟩
def c89 : FnCode := ⟨19, false, [(.tmp 2, false, 0)], k89⟩
def c90 : FnCode := ⟨25, false, [(.tmp 2, false, 0)], k90⟩
def c91 : FnCode := ⟨43, true, [(.tmp 5, false, 0)], k91⟩
def c92 : FnCode := ⟨11, false, [(.tmp 2, false, 0)], k92⟩
def c93 : FnCode := ⟨19, false, [(.tmp 4, false, 0)], k93⟩
def c94 : FnCode := ⟨9, false, [(.tmp 4, false, 0)], k94⟩
def c95 : FnCode := ⟨45, false, [(.tmp 6, false, 0), (.tmp 7, false, 0), (.tmp 8, false, 0)], k95⟩
def c96 : FnCode := ⟨14, true, [], k96⟩
def c97 : FnCode := ⟨10, false, [(.tmp 4, false, 0)], k97⟩
def c98 : FnCode := ⟨20, false, [(.tmp 4, false, 0)], k98⟩
def c99 : FnCode := ⟨27, true, [(.tmp 4, false, 0)], k99⟩
def c100 : FnCode := ⟨41, false, [(.cell 2 136, true, 2), (.tmp 3, false, 0)], k100⟩
def c101 : FnCode := ⟨81, false, [(.cell 4 141, true, 2)], k101⟩
def c102 : FnCode := ⟨3, false, [(.tmp 2, false, 0)], k102⟩
def c103 : FnCode := ⟨15, true, [(.cell 2 145, true, 4)], k103⟩
def c104 : FnCode := ⟨71, true, [(.tmp 4, false, 0)], k104⟩
def c105 : FnCode := ⟨22, false, [(.tmp 2, false, 0)], k105⟩
def c106 : FnCode := ⟨19, true, [(.tmp 2, false, 0)], k106⟩
def c107 : FnCode := ⟨8, false, [(.tmp 2, false, 0)], k107⟩
def c108 : FnCode := ⟨4, true, [(.tmp 2, false, 0)], k108⟩
def c109 : FnCode := ⟨15, true, [(.tmp 4, false, 0)], k109⟩
def c110 : FnCode := ⟨42, true, [(.tmp 4, false, 0)], k110⟩
def c111 : FnCode := ⟨9, false, [(.tmp 3, false, 0)], k111⟩
def c114 : FnCode := ⟨76, true, [], k114⟩
def c115 : FnCode := ⟨7, false, [(.tmp 2, false, 0)], k115⟩
def c116 : FnCode := ⟨33, true, [(.tmp 2, false, 0)], k116⟩
def c117 : FnCode := ⟨15, true, [(.tmp 6, false, 0)], k117⟩
def c118 : FnCode := ⟨36, true, [(.tmp 10, false, 0)], k118⟩
def c119 : FnCode := ⟨6, false, [(.tmp 2, false, 0)], k119⟩
def c120 : FnCode := ⟨13, false, [(.tmp 2, false, 0), (.tmp 3, false, 0)], k120⟩
def c121 : FnCode := ⟨19, false, [(.tmp 4, false, 0)], k121⟩
def c122 : FnCode := ⟨49, false, [(.cell 6 168, true, 4), (.tmp 7, false, 0)], k122⟩
def c123 : FnCode := ⟨148, true, [], k123⟩
def c124 : FnCode := ⟨12, false, [(.tmp 2, false, 0)], k124⟩
def c125 : FnCode := ⟨31, true, [(.cell 2 136, true, 2)], k125⟩
def c126 : FnCode := ⟨27, true, [], k126⟩
def c127 : FnCode := ⟨58, true, [], k127⟩
def c128 : FnCode := ⟨16, false, [(.tmp 4, false, 0)], k128⟩
def c129 : FnCode := ⟨69, false, [(.tmp 4, false, 0), (.tmp 5, false, 0), (.tmp 6, false, 0)], k129⟩
def c130 : FnCode := ⟨15, true, [], k130⟩
def c131 : FnCode := ⟨13, false, [(.tmp 3, false, 0)], k131⟩
def c132 : FnCode := ⟨19, false, [], k132⟩
def c133 : FnCode := ⟨19, true, [(.tmp 4, false, 0)], k133⟩
def c134 : FnCode := ⟨28, true, [(.tmp 8, false, 0), (.tmp 9, false, 0)], k134⟩
def c135 : FnCode := ⟨57, false, [(.tmp 2, false, 0)], k135⟩
def c136 : FnCode := ⟨53, true, [], k136⟩
def c137 : FnCode := ⟨60, true, [], k137⟩
def c138 : FnCode := ⟨67, true, [], k138⟩
def c139 : FnCode := ⟨63, true, [(.tmp 8, false, 0), (.tmp 9, false, 0)], k139⟩
def c140 : FnCode := ⟨34, true, [], k140⟩
def c141 : FnCode := ⟨141, true, [(.tmp 8, false, 0)], k141⟩
def c142 : FnCode := ⟨90, true, [(.tmp 10, false, 0)], k142⟩
def c143 : FnCode := ⟨178, true, [(.tmp 10, false, 0), (.tmp 11, false, 0)], k143⟩
def c144 : FnCode := ⟨63, false, [(.tmp 2, false, 0), (.tmp 3, false, 0)], k144⟩
def c145 : FnCode := ⟨48, true, [(.tmp 4, false, 0)], k145⟩
def c146 : FnCode := ⟨54, false, [(.tmp 4, false, 0), (.tmp 5, false, 0)], k146⟩
def c147 : FnCode := ⟨17, false, [(.tmp 6, false, 0)], k147⟩
def c148 : FnCode := ⟨28, true, [], k148⟩
def c149 : FnCode := ⟨82, true, [], k149⟩
def c150 : FnCode := ⟨18, true, [(.tmp 8, false, 0)], k150⟩
def c151 : FnCode := ⟨41, true, [(.tmp 12, false, 0)], k151⟩
def c152 : FnCode := ⟨30, false, [(.tmp 4, false, 0), (.tmp 5, false, 0)], k152⟩
def c153 : FnCode := ⟨6, false, [(.tmp 2, false, 0)], k153⟩
def c154 : FnCode := ⟨32, true, [(.tmp 10, false, 0), (.tmp 11, false, 0)], k154⟩
def c155 : FnCode := ⟨17, false, [(.tmp 4, false, 0), (.tmp 5, false, 0)], k155⟩
def c156 : FnCode := ⟨51, false, [(.tmp 4, false, 0), (.tmp 5, false, 0)], k156⟩
def codes : List (Nat × FnCode) := [(3, c3), (5, c5), (6, c6), (7, c7), (8, c8), (9, c9), (10, c10), (11, c11), (12, c12), (13, c13), (19, c19), (20, c20), (21, c21), (22, c22), (23, c23), (24, c24), (25, c25), (26, c26), (27, c27), (28, c28), (29, c29), (30, c30), (31, c31), (32, c32), (33, c33), (34, c34), (35, c35), (36, c36), (37, c37), (38, c38), (39, c39), (40, c40), (46, c46), (50, c50), (51, c51), (52, c52), (53, c53), (54, c54), (55, c55), (56, c56), (57, c57), (58, c58), (59, c59), (60, c60), (61, c61), (62, c62), (63, c63), (64, c64), (65, c65), (66, c66), (67, c67), (68, c68), (69, c69), (70, c70), (71, c71), (78, c78), (79, c79), (80, c80), (81, c81), (82, c82), (83, c83), (84, c84), (85, c85), (86, c86), (87, c87), (88, c88), (89, c89), (90, c90), (91, c91), (92, c92), (93, c93), (94, c94), (95, c95), (96, c96), (97, c97), (98, c98), (99, c99), (100, c100), (101, c101), (102, c102), (103, c103), (104, c104), (105, c105), (106, c106), (107, c107), (108, c108), (109, c109), (110, c110), (111, c111), (114, c114), (115, c115), (116, c116), (117, c117), (118, c118), (119, c119), (120, c120), (121, c121), (122, c122), (123, c123), (124, c124), (125, c125), (126, c126), (127, c127), (128, c128), (129, c129), (130, c130), (131, c131), (132, c132), (133, c133), (134, c134), (135, c135), (136, c136), (137, c137), (138, c138), (139, c139), (140, c140), (141, c141), (142, c142), (143, c143), (144, c144), (145, c145), (146, c146), (147, c147), (148, c148), (149, c149), (150, c150), (151, c151), (152, c152), (153, c153), (154, c154), (155, c155), (156, c156)]
def codeAt (f : Nat) : Option FnCode := (bif Nat.blt f 89 then (bif Nat.blt f 50 then (bif Nat.blt f 25 then (bif Nat.blt f 12 then (bif Nat.blt f 8 then (bif Nat.blt f 6 then (bif Nat.blt f 5 then (bif Nat.beq f 3 then some c3 else none) else (bif Nat.beq f 5 then some c5 else none)) else (bif Nat.blt f 7 then (bif Nat.beq f 6 then some c6 else none) else (bif Nat.beq f 7 then some c7 else none))) else (bif Nat.blt f 10 then (bif Nat.blt f 9 then (bif Nat.beq f 8 then some c8 else none) else (bif Nat.beq f 9 then some c9 else none)) else (bif Nat.blt f 11 then (bif Nat.beq f 10 then some c10 else none) else (bif Nat.beq f 11 then some c11 else none)))) else (bif Nat.blt f 21 then (bif Nat.blt f 19 then (bif Nat.blt f 13 then (bif Nat.beq f 12 then some c12 else none) else (bif Nat.beq f 13 then some c13 else none)) else (bif Nat.blt f 20 then (bif Nat.beq f 19 then some c19 else none) else (bif Nat.beq f 20 then some c20 else none))) else (bif Nat.blt f 23 then (bif Nat.blt f 22 then (bif Nat.beq f 21 then some c21 else none) else (bif Nat.beq f 22 then some c22 else none)) else (bif Nat.blt f 24 then (bif Nat.beq f 23 then some c23 else none) else (bif Nat.beq f 24 then some c24 else none))))) else (bif Nat.blt f 33 then (bif Nat.blt f 29 then (bif Nat.blt f 27 then (bif Nat.blt f 26 then (bif Nat.beq f 25 then some c25 else none) else (bif Nat.beq f 26 then some c26 else none)) else (bif Nat.blt f 28 then (bif Nat.beq f 27 then some c27 else none) else (bif Nat.beq f 28 then some c28 else none))) else (bif Nat.blt f 31 then (bif Nat.blt f 30 then (bif Nat.beq f 29 then some c29 else none) else (bif Nat.beq f 30 then some c30 else none)) else (bif Nat.blt f 32 then (bif Nat.beq f 31 then some c31 else none) else (bif Nat.beq f 32 then some c32 else none)))) else (bif Nat.blt f 37 then (bif Nat.blt f 35 then (bif Nat.blt f 34 then (bif Nat.beq f 33 then some c33 else none) else (bif Nat.beq f 34 then some c34 else none)) else (bif Nat.blt f 36 then (bif Nat.beq f 35 then some c35 else none) else (bif Nat.beq f 36 then some c36 else none))) else (bif Nat.blt f 39 then (bif Nat.blt f 38 then (bif Nat.beq f 37 then some c37 else none) else (bif Nat.beq f 38 then some c38 else none)) else (bif Nat.blt f 40 then (bif Nat.beq f 39 then some c39 else none) else (bif Nat.blt f 46 then (bif Nat.beq f 40 then some c40 else none) else (bif Nat.beq f 46 then some c46 else none))))))) else (bif Nat.blt f 66 then (bif Nat.blt f 58 then (bif Nat.blt f 54 then (bif Nat.blt f 52 then (bif Nat.blt f 51 then (bif Nat.beq f 50 then some c50 else none) else (bif Nat.beq f 51 then some c51 else none)) else (bif Nat.blt f 53 then (bif Nat.beq f 52 then some c52 else none) else (bif Nat.beq f 53 then some c53 else none))) else (bif Nat.blt f 56 then (bif Nat.blt f 55 then (bif Nat.beq f 54 then some c54 else none) else (bif Nat.beq f 55 then some c55 else none)) else (bif Nat.blt f 57 then (bif Nat.beq f 56 then some c56 else none) else (bif Nat.beq f 57 then some c57 else none)))) else (bif Nat.blt f 62 then (bif Nat.blt f 60 then (bif Nat.blt f 59 then (bif Nat.beq f 58 then some c58 else none) else (bif Nat.beq f 59 then some c59 else none)) else (bif Nat.blt f 61 then (bif Nat.beq f 60 then some c60 else none) else (bif Nat.beq f 61 then some c61 else none))) else (bif Nat.blt f 64 then (bif Nat.blt f 63 then (bif Nat.beq f 62 then some c62 else none) else (bif Nat.beq f 63 then some c63 else none)) else (bif Nat.blt f 65 then (bif Nat.beq f 64 then some c64 else none) else (bif Nat.beq f 65 then some c65 else none))))) else (bif Nat.blt f 80 then (bif Nat.blt f 70 then (bif Nat.blt f 68 then (bif Nat.blt f 67 then (bif Nat.beq f 66 then some c66 else none) else (bif Nat.beq f 67 then some c67 else none)) else (bif Nat.blt f 69 then (bif Nat.beq f 68 then some c68 else none) else (bif Nat.beq f 69 then some c69 else none))) else (bif Nat.blt f 78 then (bif Nat.blt f 71 then (bif Nat.beq f 70 then some c70 else none) else (bif Nat.beq f 71 then some c71 else none)) else (bif Nat.blt f 79 then (bif Nat.beq f 78 then some c78 else none) else (bif Nat.beq f 79 then some c79 else none)))) else (bif Nat.blt f 84 then (bif Nat.blt f 82 then (bif Nat.blt f 81 then (bif Nat.beq f 80 then some c80 else none) else (bif Nat.beq f 81 then some c81 else none)) else (bif Nat.blt f 83 then (bif Nat.beq f 82 then some c82 else none) else (bif Nat.beq f 83 then some c83 else none))) else (bif Nat.blt f 86 then (bif Nat.blt f 85 then (bif Nat.beq f 84 then some c84 else none) else (bif Nat.beq f 85 then some c85 else none)) else (bif Nat.blt f 87 then (bif Nat.beq f 86 then some c86 else none) else (bif Nat.blt f 88 then (bif Nat.beq f 87 then some c87 else none) else (bif Nat.beq f 88 then some c88 else none)))))))) else (bif Nat.blt f 124 then (bif Nat.blt f 105 then (bif Nat.blt f 97 then (bif Nat.blt f 93 then (bif Nat.blt f 91 then (bif Nat.blt f 90 then (bif Nat.beq f 89 then some c89 else none) else (bif Nat.beq f 90 then some c90 else none)) else (bif Nat.blt f 92 then (bif Nat.beq f 91 then some c91 else none) else (bif Nat.beq f 92 then some c92 else none))) else (bif Nat.blt f 95 then (bif Nat.blt f 94 then (bif Nat.beq f 93 then some c93 else none) else (bif Nat.beq f 94 then some c94 else none)) else (bif Nat.blt f 96 then (bif Nat.beq f 95 then some c95 else none) else (bif Nat.beq f 96 then some c96 else none)))) else (bif Nat.blt f 101 then (bif Nat.blt f 99 then (bif Nat.blt f 98 then (bif Nat.beq f 97 then some c97 else none) else (bif Nat.beq f 98 then some c98 else none)) else (bif Nat.blt f 100 then (bif Nat.beq f 99 then some c99 else none) else (bif Nat.beq f 100 then some c100 else none))) else (bif Nat.blt f 103 then (bif Nat.blt f 102 then (bif Nat.beq f 101 then some c101 else none) else (bif Nat.beq f 102 then some c102 else none)) else (bif Nat.blt f 104 then (bif Nat.beq f 103 then some c103 else none) else (bif Nat.beq f 104 then some c104 else none))))) else (bif Nat.blt f 115 then (bif Nat.blt f 109 then (bif Nat.blt f 107 then (bif Nat.blt f 106 then (bif Nat.beq f 105 then some c105 else none) else (bif Nat.beq f 106 then some c106 else none)) else (bif Nat.blt f 108 then (bif Nat.beq f 107 then some c107 else none) else (bif Nat.beq f 108 then some c108 else none))) else (bif Nat.blt f 111 then (bif Nat.blt f 110 then (bif Nat.beq f 109 then some c109 else none) else (bif Nat.beq f 110 then some c110 else none)) else (bif Nat.blt f 114 then (bif Nat.beq f 111 then some c111 else none) else (bif Nat.beq f 114 then some c114 else none)))) else (bif Nat.blt f 119 then (bif Nat.blt f 117 then (bif Nat.blt f 116 then (bif Nat.beq f 115 then some c115 else none) else (bif Nat.beq f 116 then some c116 else none)) else (bif Nat.blt f 118 then (bif Nat.beq f 117 then some c117 else none) else (bif Nat.beq f 118 then some c118 else none))) else (bif Nat.blt f 121 then (bif Nat.blt f 120 then (bif Nat.beq f 119 then some c119 else none) else (bif Nat.beq f 120 then some c120 else none)) else (bif Nat.blt f 122 then (bif Nat.beq f 121 then some c121 else none) else (bif Nat.blt f 123 then (bif Nat.beq f 122 then some c122 else none) else (bif Nat.beq f 123 then some c123 else none))))))) else (bif Nat.blt f 140 then (bif Nat.blt f 132 then (bif Nat.blt f 128 then (bif Nat.blt f 126 then (bif Nat.blt f 125 then (bif Nat.beq f 124 then some c124 else none) else (bif Nat.beq f 125 then some c125 else none)) else (bif Nat.blt f 127 then (bif Nat.beq f 126 then some c126 else none) else (bif Nat.beq f 127 then some c127 else none))) else (bif Nat.blt f 130 then (bif Nat.blt f 129 then (bif Nat.beq f 128 then some c128 else none) else (bif Nat.beq f 129 then some c129 else none)) else (bif Nat.blt f 131 then (bif Nat.beq f 130 then some c130 else none) else (bif Nat.beq f 131 then some c131 else none)))) else (bif Nat.blt f 136 then (bif Nat.blt f 134 then (bif Nat.blt f 133 then (bif Nat.beq f 132 then some c132 else none) else (bif Nat.beq f 133 then some c133 else none)) else (bif Nat.blt f 135 then (bif Nat.beq f 134 then some c134 else none) else (bif Nat.beq f 135 then some c135 else none))) else (bif Nat.blt f 138 then (bif Nat.blt f 137 then (bif Nat.beq f 136 then some c136 else none) else (bif Nat.beq f 137 then some c137 else none)) else (bif Nat.blt f 139 then (bif Nat.beq f 138 then some c138 else none) else (bif Nat.beq f 139 then some c139 else none))))) else (bif Nat.blt f 148 then (bif Nat.blt f 144 then (bif Nat.blt f 142 then (bif Nat.blt f 141 then (bif Nat.beq f 140 then some c140 else none) else (bif Nat.beq f 141 then some c141 else none)) else (bif Nat.blt f 143 then (bif Nat.beq f 142 then some c142 else none) else (bif Nat.beq f 143 then some c143 else none))) else (bif Nat.blt f 146 then (bif Nat.blt f 145 then (bif Nat.beq f 144 then some c144 else none) else (bif Nat.beq f 145 then some c145 else none)) else (bif Nat.blt f 147 then (bif Nat.beq f 146 then some c146 else none) else (bif Nat.beq f 147 then some c147 else none)))) else (bif Nat.blt f 152 then (bif Nat.blt f 150 then (bif Nat.blt f 149 then (bif Nat.beq f 148 then some c148 else none) else (bif Nat.beq f 149 then some c149 else none)) else (bif Nat.blt f 151 then (bif Nat.beq f 150 then some c150 else none) else (bif Nat.beq f 151 then some c151 else none))) else (bif Nat.blt f 154 then (bif Nat.blt f 153 then (bif Nat.beq f 152 then some c152 else none) else (bif Nat.beq f 153 then some c153 else none)) else (bif Nat.blt f 155 then (bif Nat.beq f 154 then some c154 else none) else (bif Nat.blt f 156 then (bif Nat.beq f 155 then some c155 else none) else (bif Nat.beq f 156 then some c156 else none)))))))))
theorem kc3 : codeOf Tryz.prog 3 = some (33, [(.tmp 2, false, 0)], k3) := by kernel_rfl
theorem kc5 : codeOf Tryz.prog 5 = some (43, [(.tmp 2, false, 0)], k5) := by kernel_rfl
theorem kc6 : codeOf Tryz.prog 6 = some (52, [(.tmp 2, false, 0)], k6) := by kernel_rfl
theorem kc7 : codeOf Tryz.prog 7 = some (66, [(.tmp 2, false, 0)], k7) := by kernel_rfl
theorem kc8 : codeOf Tryz.prog 8 = some (69, [(.tmp 2, false, 0)], k8) := by kernel_rfl
theorem kc9 : codeOf Tryz.prog 9 = some (26, [(.tmp 4, false, 0)], k9) := by kernel_rfl
theorem kc10 : codeOf Tryz.prog 10 = some (29, [(.tmp 2, false, 0)], k10) := by kernel_rfl
theorem kc11 : codeOf Tryz.prog 11 = some (25, [(.tmp 2, false, 0)], k11) := by kernel_rfl
theorem kc12 : codeOf Tryz.prog 12 = some (83, [(.tmp 0, false, 0)], k12) := by kernel_rfl
theorem kc13 : codeOf Tryz.prog 13 = some (42, [(.tmp 4, false, 0), (.tmp 5, false, 0)], k13) := by kernel_rfl
theorem kc19 : codeOf Tryz.prog 19 = some (15, [(.tmp 6, false, 0)], k19) := by kernel_rfl
theorem kc20 : codeOf Tryz.prog 20 = some (42, [(.tmp 2, false, 0)], k20) := by kernel_rfl
theorem kc21 : codeOf Tryz.prog 21 = some (40, [(.tmp 2, false, 0)], k21) := by kernel_rfl
theorem kc22 : codeOf Tryz.prog 22 = some (25, [(.tmp 2, false, 0)], k22) := by kernel_rfl
theorem kc23 : codeOf Tryz.prog 23 = some (19, [(.tmp 2, false, 0)], k23) := by kernel_rfl
theorem kc24 : codeOf Tryz.prog 24 = some (30, [(.tmp 2, false, 0)], k24) := by kernel_rfl
theorem kc25 : codeOf Tryz.prog 25 = some (22, [(.tmp 2, false, 0)], k25) := by kernel_rfl
theorem kc26 : codeOf Tryz.prog 26 = some (31, [(.tmp 2, false, 0)], k26) := by kernel_rfl
theorem kc27 : codeOf Tryz.prog 27 = some (26, [(.tmp 2, false, 0)], k27) := by kernel_rfl
theorem kc28 : codeOf Tryz.prog 28 = some (11, [], k28) := by kernel_rfl
theorem kc29 : codeOf Tryz.prog 29 = some (61, [(.tmp 2, false, 0)], k29) := by kernel_rfl
theorem kc30 : codeOf Tryz.prog 30 = some (8, [(.tmp 2, false, 0)], k30) := by kernel_rfl
theorem kc31 : codeOf Tryz.prog 31 = some (49, [(.tmp 4, false, 0)], k31) := by kernel_rfl
theorem kc32 : codeOf Tryz.prog 32 = some (17, [(.cell 0 25, true, 2)], k32) := by kernel_rfl
theorem kc33 : codeOf Tryz.prog 33 = some (15, [(.tmp 2, false, 0), (.tmp 3, false, 0)], k33) := by kernel_rfl
theorem kc34 : codeOf Tryz.prog 34 = some (25, [(.tmp 6, false, 0), (.tmp 7, false, 0)], k34) := by kernel_rfl
theorem kc35 : codeOf Tryz.prog 35 = some (51, [(.tmp 4, false, 0), (.tmp 5, false, 0), (.tmp 6, false, 0)], k35) := by kernel_rfl
theorem kc36 : codeOf Tryz.prog 36 = some (21, [(.tmp 4, false, 0), (.tmp 5, false, 0)], k36) := by kernel_rfl
theorem kc37 : codeOf Tryz.prog 37 = some (27, [(.tmp 4, false, 0)], k37) := by kernel_rfl
theorem kc38 : codeOf Tryz.prog 38 = some (26, [(.tmp 4, false, 0)], k38) := by kernel_rfl
theorem kc39 : codeOf Tryz.prog 39 = some (26, [(.tmp 4, false, 0)], k39) := by kernel_rfl
theorem kc40 : codeOf Tryz.prog 40 = some (31, [(.tmp 4, false, 0)], k40) := by kernel_rfl
theorem kc46 : codeOf Tryz.prog 46 = some (8, [(.tmp 2, false, 0)], k46) := by kernel_rfl
theorem kc50 : codeOf Tryz.prog 50 = some (15, [(.tmp 6, false, 0)], k50) := by kernel_rfl
theorem kc51 : codeOf Tryz.prog 51 = some (15, [(.tmp 6, false, 0)], k51) := by kernel_rfl
theorem kc52 : codeOf Tryz.prog 52 = some (7, [(.tmp 2, false, 0)], k52) := by kernel_rfl
theorem kc53 : codeOf Tryz.prog 53 = some (21, [], k53) := by kernel_rfl
theorem kc54 : codeOf Tryz.prog 54 = some (30, [(.tmp 2, false, 0)], k54) := by kernel_rfl
theorem kc55 : codeOf Tryz.prog 55 = some (21, [(.tmp 2, false, 0)], k55) := by kernel_rfl
theorem kc56 : codeOf Tryz.prog 56 = some (22, [(.tmp 4, false, 0)], k56) := by kernel_rfl
theorem kc57 : codeOf Tryz.prog 57 = some (7, [(.tmp 2, false, 0)], k57) := by kernel_rfl
theorem kc58 : codeOf Tryz.prog 58 = some (134, [], k58) := by kernel_rfl
theorem kc59 : codeOf Tryz.prog 59 = some (8, [(.tmp 2, false, 0)], k59) := by kernel_rfl
theorem kc60 : codeOf Tryz.prog 60 = some (18, [(.tmp 2, false, 0)], k60) := by kernel_rfl
theorem kc61 : codeOf Tryz.prog 61 = some (8, [], k61) := by kernel_rfl
theorem kc62 : codeOf Tryz.prog 62 = some (10, [(.tmp 5, false, 0)], k62) := by kernel_rfl
theorem kc63 : codeOf Tryz.prog 63 = some (26, [(.tmp 6, false, 0)], k63) := by kernel_rfl
theorem kc64 : codeOf Tryz.prog 64 = some (25, [(.tmp 7, false, 0)], k64) := by kernel_rfl
theorem kc65 : codeOf Tryz.prog 65 = some (28, [(.cell 6 68, true, 2)], k65) := by kernel_rfl
theorem kc66 : codeOf Tryz.prog 66 = some (49, [(.tmp 2, false, 0)], k66) := by kernel_rfl
theorem kc67 : codeOf Tryz.prog 67 = some (30, [(.tmp 6, false, 0)], k67) := by kernel_rfl
theorem kc68 : codeOf Tryz.prog 68 = some (36, [(.tmp 2, false, 0)], k68) := by kernel_rfl
theorem kc69 : codeOf Tryz.prog 69 = some (26, [(.tmp 4, false, 0), (.tmp 5, false, 0)], k69) := by kernel_rfl
theorem kc70 : codeOf Tryz.prog 70 = some (28, [(.tmp 4, false, 0)], k70) := by kernel_rfl
theorem kc71 : codeOf Tryz.prog 71 = some (36, [(.tmp 2, false, 0), (.tmp 3, false, 0)], k71) := by kernel_rfl
theorem kc78 : codeOf Tryz.prog 78 = some (18, [], k78) := by kernel_rfl
theorem kc79 : codeOf Tryz.prog 79 = some (14, [(.tmp 2, false, 0)], k79) := by kernel_rfl
theorem kc80 : codeOf Tryz.prog 80 = some (49, [], k80) := by kernel_rfl
theorem kc81 : codeOf Tryz.prog 81 = some (56, [], k81) := by kernel_rfl
theorem kc82 : codeOf Tryz.prog 82 = some (65, [], k82) := by kernel_rfl
theorem kc83 : codeOf Tryz.prog 83 = some (57, [(.tmp 6, false, 0), (.tmp 7, false, 0)], k83) := by kernel_rfl
theorem kc84 : codeOf Tryz.prog 84 = some (32, [], k84) := by kernel_rfl
theorem kc85 : codeOf Tryz.prog 85 = some (133, [(.tmp 6, false, 0)], k85) := by kernel_rfl
theorem kc86 : codeOf Tryz.prog 86 = some (17, [(.tmp 4, false, 0)], k86) := by kernel_rfl
theorem kc87 : codeOf Tryz.prog 87 = some (84, [(.tmp 8, false, 0)], k87) := by kernel_rfl
theorem kc88 : codeOf Tryz.prog 88 = some (168, [(.tmp 8, false, 0), (.tmp 9, false, 0)], k88) := by kernel_rfl
theorem kc89 : codeOf Tryz.prog 89 = some (19, [(.tmp 2, false, 0)], k89) := by kernel_rfl
theorem kc90 : codeOf Tryz.prog 90 = some (25, [(.tmp 2, false, 0)], k90) := by kernel_rfl
theorem kc91 : codeOf Tryz.prog 91 = some (43, [(.tmp 5, false, 0)], k91) := by kernel_rfl
theorem kc92 : codeOf Tryz.prog 92 = some (11, [(.tmp 2, false, 0)], k92) := by kernel_rfl
theorem kc93 : codeOf Tryz.prog 93 = some (19, [(.tmp 4, false, 0)], k93) := by kernel_rfl
theorem kc94 : codeOf Tryz.prog 94 = some (9, [(.tmp 4, false, 0)], k94) := by kernel_rfl
theorem kc95 : codeOf Tryz.prog 95 = some (45, [(.tmp 6, false, 0), (.tmp 7, false, 0), (.tmp 8, false, 0)], k95) := by kernel_rfl
theorem kc96 : codeOf Tryz.prog 96 = some (14, [], k96) := by kernel_rfl
theorem kc97 : codeOf Tryz.prog 97 = some (10, [(.tmp 4, false, 0)], k97) := by kernel_rfl
theorem kc98 : codeOf Tryz.prog 98 = some (20, [(.tmp 4, false, 0)], k98) := by kernel_rfl
theorem kc99 : codeOf Tryz.prog 99 = some (27, [(.tmp 4, false, 0)], k99) := by kernel_rfl
theorem kc100 : codeOf Tryz.prog 100 = some (41, [(.cell 2 136, true, 2), (.tmp 3, false, 0)], k100) := by kernel_rfl
theorem kc101 : codeOf Tryz.prog 101 = some (81, [(.cell 4 141, true, 2)], k101) := by kernel_rfl
theorem kc102 : codeOf Tryz.prog 102 = some (3, [(.tmp 2, false, 0)], k102) := by kernel_rfl
theorem kc103 : codeOf Tryz.prog 103 = some (15, [(.cell 2 145, true, 4)], k103) := by kernel_rfl
theorem kc104 : codeOf Tryz.prog 104 = some (71, [(.tmp 4, false, 0)], k104) := by kernel_rfl
theorem kc105 : codeOf Tryz.prog 105 = some (22, [(.tmp 2, false, 0)], k105) := by kernel_rfl
theorem kc106 : codeOf Tryz.prog 106 = some (19, [(.tmp 2, false, 0)], k106) := by kernel_rfl
theorem kc107 : codeOf Tryz.prog 107 = some (8, [(.tmp 2, false, 0)], k107) := by kernel_rfl
theorem kc108 : codeOf Tryz.prog 108 = some (4, [(.tmp 2, false, 0)], k108) := by kernel_rfl
theorem kc109 : codeOf Tryz.prog 109 = some (15, [(.tmp 4, false, 0)], k109) := by kernel_rfl
theorem kc110 : codeOf Tryz.prog 110 = some (42, [(.tmp 4, false, 0)], k110) := by kernel_rfl
theorem kc111 : codeOf Tryz.prog 111 = some (9, [(.tmp 3, false, 0)], k111) := by kernel_rfl
theorem kc114 : codeOf Tryz.prog 114 = some (76, [], k114) := by kernel_rfl
theorem kc115 : codeOf Tryz.prog 115 = some (7, [(.tmp 2, false, 0)], k115) := by kernel_rfl
theorem kc116 : codeOf Tryz.prog 116 = some (33, [(.tmp 2, false, 0)], k116) := by kernel_rfl
theorem kc117 : codeOf Tryz.prog 117 = some (15, [(.tmp 6, false, 0)], k117) := by kernel_rfl
theorem kc118 : codeOf Tryz.prog 118 = some (36, [(.tmp 10, false, 0)], k118) := by kernel_rfl
theorem kc119 : codeOf Tryz.prog 119 = some (6, [(.tmp 2, false, 0)], k119) := by kernel_rfl
theorem kc120 : codeOf Tryz.prog 120 = some (13, [(.tmp 2, false, 0), (.tmp 3, false, 0)], k120) := by kernel_rfl
theorem kc121 : codeOf Tryz.prog 121 = some (19, [(.tmp 4, false, 0)], k121) := by kernel_rfl
theorem kc122 : codeOf Tryz.prog 122 = some (49, [(.cell 6 168, true, 4), (.tmp 7, false, 0)], k122) := by kernel_rfl
theorem kc123 : codeOf Tryz.prog 123 = some (148, [], k123) := by kernel_rfl
theorem kc124 : codeOf Tryz.prog 124 = some (12, [(.tmp 2, false, 0)], k124) := by kernel_rfl
theorem kc125 : codeOf Tryz.prog 125 = some (31, [(.cell 2 136, true, 2)], k125) := by kernel_rfl
theorem kc126 : codeOf Tryz.prog 126 = some (27, [], k126) := by kernel_rfl
theorem kc127 : codeOf Tryz.prog 127 = some (58, [], k127) := by kernel_rfl
theorem kc128 : codeOf Tryz.prog 128 = some (16, [(.tmp 4, false, 0)], k128) := by kernel_rfl
theorem kc129 : codeOf Tryz.prog 129 = some (69, [(.tmp 4, false, 0), (.tmp 5, false, 0), (.tmp 6, false, 0)], k129) := by kernel_rfl
theorem kc130 : codeOf Tryz.prog 130 = some (15, [], k130) := by kernel_rfl
theorem kc131 : codeOf Tryz.prog 131 = some (13, [(.tmp 3, false, 0)], k131) := by kernel_rfl
theorem kc132 : codeOf Tryz.prog 132 = some (19, [], k132) := by kernel_rfl
theorem kc133 : codeOf Tryz.prog 133 = some (19, [(.tmp 4, false, 0)], k133) := by kernel_rfl
theorem kc134 : codeOf Tryz.prog 134 = some (28, [(.tmp 8, false, 0), (.tmp 9, false, 0)], k134) := by kernel_rfl
theorem kc135 : codeOf Tryz.prog 135 = some (57, [(.tmp 2, false, 0)], k135) := by kernel_rfl
theorem kc136 : codeOf Tryz.prog 136 = some (53, [], k136) := by kernel_rfl
theorem kc137 : codeOf Tryz.prog 137 = some (60, [], k137) := by kernel_rfl
theorem kc138 : codeOf Tryz.prog 138 = some (67, [], k138) := by kernel_rfl
theorem kc139 : codeOf Tryz.prog 139 = some (63, [(.tmp 8, false, 0), (.tmp 9, false, 0)], k139) := by kernel_rfl
theorem kc140 : codeOf Tryz.prog 140 = some (34, [], k140) := by kernel_rfl
theorem kc141 : codeOf Tryz.prog 141 = some (141, [(.tmp 8, false, 0)], k141) := by kernel_rfl
theorem kc142 : codeOf Tryz.prog 142 = some (90, [(.tmp 10, false, 0)], k142) := by kernel_rfl
theorem kc143 : codeOf Tryz.prog 143 = some (178, [(.tmp 10, false, 0), (.tmp 11, false, 0)], k143) := by kernel_rfl
theorem kc144 : codeOf Tryz.prog 144 = some (63, [(.tmp 2, false, 0), (.tmp 3, false, 0)], k144) := by kernel_rfl
theorem kc145 : codeOf Tryz.prog 145 = some (48, [(.tmp 4, false, 0)], k145) := by kernel_rfl
theorem kc146 : codeOf Tryz.prog 146 = some (54, [(.tmp 4, false, 0), (.tmp 5, false, 0)], k146) := by kernel_rfl
theorem kc147 : codeOf Tryz.prog 147 = some (17, [(.tmp 6, false, 0)], k147) := by kernel_rfl
theorem kc148 : codeOf Tryz.prog 148 = some (28, [], k148) := by kernel_rfl
theorem kc149 : codeOf Tryz.prog 149 = some (82, [], k149) := by kernel_rfl
theorem kc150 : codeOf Tryz.prog 150 = some (18, [(.tmp 8, false, 0)], k150) := by kernel_rfl
theorem kc151 : codeOf Tryz.prog 151 = some (41, [(.tmp 12, false, 0)], k151) := by kernel_rfl
theorem kc152 : codeOf Tryz.prog 152 = some (30, [(.tmp 4, false, 0), (.tmp 5, false, 0)], k152) := by kernel_rfl
theorem kc153 : codeOf Tryz.prog 153 = some (6, [(.tmp 2, false, 0)], k153) := by kernel_rfl
theorem kc154 : codeOf Tryz.prog 154 = some (32, [(.tmp 10, false, 0), (.tmp 11, false, 0)], k154) := by kernel_rfl
theorem kc155 : codeOf Tryz.prog 155 = some (17, [(.tmp 4, false, 0), (.tmp 5, false, 0)], k155) := by kernel_rfl
theorem kc156 : codeOf Tryz.prog 156 = some (51, [(.tmp 4, false, 0), (.tmp 5, false, 0)], k156) := by kernel_rfl
end Go.Proofs.YtmncdmpeeibgmaaGreatDoor
