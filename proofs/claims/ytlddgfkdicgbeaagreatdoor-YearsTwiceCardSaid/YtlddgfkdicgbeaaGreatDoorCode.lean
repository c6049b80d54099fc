/- The small code of the functions of this program, as its own reader reads them: it is the program. -/
import Derived.Test.YtlddgfkdicgbeaaGreatDoorProg
import Derived.Test.YtlddgfkdicgbeaaGreatDoorCodeB
namespace Go.Proofs.YtlddgfkdicgbeaaGreatDoor
open Go Go.Em
set_option maxRecDepth 100000
def c6 : FnCode := ⟨78, false, [(.tmp 6, false, 0)], k6⟩
def c9 : FnCode := ⟨26, false, [(.tmp 4, false, 0)], k9⟩
def c10 : FnCode := ⟨5, true, [(.tmp 2, false, 0)], k10⟩
def c16 : FnCode := ⟨8, false, [(.tmp 4, false, 0)], k16⟩
def c18 : FnCode := ⟨112, false, [(.tmp 0, false, 0)], k18⟩
def c21 : FnCode := ⟨9, false, [(.tmp 4, false, 0)], k21⟩
def c23 : FnCode := ⟨57, false, [(.tmp 6, false, 0)], k23⟩
def c25 : FnCode := ⟨34, false, [(.tmp 2, false, 0)], k25⟩
def c26 : FnCode := ⟨12, false, [(.tmp 4, false, 0)], k26⟩
def c28 : FnCode := ⟨46, true, [(.tmp 6, false, 0)], k28⟩
def c29 : FnCode := ⟨6, false, [(.tmp 4, false, 0)], k29⟩
def c34 : FnCode := ⟨10, false, [(.tmp 4, false, 0)], k34⟩
def c35 : FnCode := ⟨24, false, [(.tmp 6, false, 0), (.tmp 7, false, 0)], k35⟩
def c36 : FnCode := ⟨37, false, [(.cell 6 56, true, 3), (.tmp 7, false, 0)], k36⟩
def c37 : FnCode := ⟨72, false, [(.cell 8 3, false, 1), (.cell 9 3, false, 1), (.tmp 10, false, 0)], k37⟩
def c38 : FnCode := ⟨26, false, [(.tmp 4, false, 0), (.cell 5 63, true, 2), (.tmp 6, false, 0)], k38⟩
def c39 : FnCode := ⟨9, false, [(.tmp 4, false, 0)], k39⟩
def c40 : FnCode := ⟨30, false, [(.tmp 2, false, 0)], k40⟩
def c41 : FnCode := ⟨10, false, [(.tmp 3, false, 0)], k41⟩
def c42 : FnCode := ⟨15, false, [(.tmp 6, false, 0)], k42⟩
def c43 : FnCode := ⟨50, false, [(.tmp 4, false, 0)], k43⟩
def c44 : FnCode := ⟨33, true, [(.tmp 4, false, 0)], k44⟩
def c45 : FnCode := ⟨21, false, [(.tmp 6, false, 0), (.tmp 7, false, 0)], k45⟩
def c46 : FnCode := ⟨37, false, [(.tmp 6, false, 0), (.tmp 7, false, 0)], k46⟩
def c47 : FnCode := ⟨38, false, [(.tmp 4, false, 0)], k47⟩
def c48 : FnCode := ⟨47, false, [(.cell 6 79, true, 5), (.tmp 7, false, 0)], k48⟩
def c49 : FnCode := ⟨92, false, [(.tmp 6, false, 0)], k49⟩
def c50 : FnCode := ⟨111, false, [(.cell 4 87, true, 6)], k50⟩
def c51 : FnCode := ⟨6, true, [(.tmp 4, false, 0)], k51⟩
def c52 : FnCode := ⟨18, true, [(.tmp 2, false, 0)], k52⟩
def c53 : FnCode := ⟨42, false, [(.tmp 4, false, 0), (.tmp 5, false, 0)], k53⟩
def c54 : FnCode := ⟨33, false, [(.cell 4 63, true, 2)], k54⟩
def c55 : FnCode := ⟨24, false, [(.tmp 4, false, 0)], k55⟩
def c56 : FnCode := ⟨19, false, [(.tmp 4, false, 0)], k56⟩
def c57 : FnCode := ⟨19, false, [(.tmp 4, false, 0)], k57⟩
def c58 : FnCode := ⟨14, true, [], k58⟩
def c59 : FnCode := ⟨10, false, [(.tmp 4, false, 0)], k59⟩
def c60 : FnCode := ⟨20, false, [(.tmp 4, false, 0)], k60⟩
def c61 : FnCode := ⟨4, false, [(.tmp 2, false, 0)], k61⟩
def c62 : FnCode := ⟨6, false, [(.tmp 2, false, 0)], k62⟩
def c63 : FnCode := ⟨25, false, [(.tmp 6, false, 0), (.tmp 7, false, 0)], k63⟩
def c64 : FnCode := ⟨66, false, [(.tmp 2, false, 0)], k64⟩
def c65 : FnCode := ⟨30, false, [(.tmp 2, false, 0)], k65⟩
def c66 : FnCode := ⟨8, false, [(.tmp 3, false, 0)], k66⟩
def c67 : FnCode := ⟨9, false, [(.tmp 4, false, 0)], k67⟩
def c68 : FnCode := ⟨9, false, [(.tmp 4, false, 0)], k68⟩
def c69 : FnCode := ⟨8, false, [(.tmp 3, false, 0)], k69⟩
def c70 : FnCode := ⟨15, false, [(.tmp 2, false, 0), (.tmp 3, false, 0)], k70⟩
def c71 : FnCode := ⟨19, false, [(.tmp 4, false, 0)], k71⟩
def c72 : FnCode := ⟨42, false, [(.tmp 4, false, 0), (.tmp 5, false, 0)], k72⟩
def c73 : FnCode := ⟨24, false, [(.cell 2 119, true, 2), (.tmp 3, false, 0)], k73⟩
def c74 : FnCode := ⟨48, true, [(.tmp 4, false, 0)], k74⟩
def c75 : FnCode := ⟨13, true, [], k75⟩
def c76 : FnCode := ⟨42, true, [(.tmp 8, false, 0)], k76⟩
def c77 : FnCode := ⟨11, false, [(.tmp 2, false, 0)], k77⟩
def c78 : FnCode := ⟨27, false, [(.cell 2 63, true, 2), (.tmp 3, false, 0)], k78⟩
def c79 : FnCode := ⟨11, false, [(.tmp 2, false, 0)], k79⟩
def c80 : FnCode := ⟨148, true, [], k80⟩
def c81 : FnCode := ⟨8, false, [(.tmp 2, false, 0)], k81⟩
def c82 : FnCode := ⟨6, false, [(.tmp 2, false, 0)], k82⟩
def c83 : FnCode := ⟨16, false, [], k83⟩
def c84 : FnCode := ⟨30, false, [(.tmp 2, false, 0)], k84⟩
def c85 : FnCode := ⟨26, false, [(.tmp 6, false, 0)], k85⟩
def c86 : FnCode := ⟨8, true, [], k86⟩
def c87 : FnCode := ⟨25, true, [(.tmp 7, false, 0)], k87⟩
def c88 : FnCode := ⟨28, false, [(.cell 6 40, true, 2)], k88⟩
def c89 : FnCode := ⟨49, false, [(.tmp 2, false, 0)], k89⟩
def c90 : FnCode := ⟨25, false, [(.tmp 2, false, 0)], k90⟩
def c91 : FnCode := ⟨43, false, [(.tmp 2, false, 0)], k91⟩
def c92 : FnCode := ⟨19, false, [(.tmp 2, false, 0)], k92⟩
def c93 : FnCode := ⟨21, true, [], k93⟩
def c94 : FnCode := ⟨30, false, [(.tmp 2, false, 0)], k94⟩
def c95 : FnCode := ⟨19, false, [(.tmp 4, false, 0)], k95⟩
def c96 : FnCode := ⟨10, true, [(.tmp 5, false, 0)], k96⟩
def c97 : FnCode := ⟨15, false, [(.tmp 6, false, 0)], k97⟩
def c98 : FnCode := ⟨31, false, [(.tmp 4, false, 0)], k98⟩
def c99 : FnCode := ⟨41, false, [(.cell 2 152, true, 2), (.tmp 3, false, 0)], k99⟩
def c100 : FnCode := ⟨81, false, [(.cell 4 157, true, 2)], k100⟩
def c101 : FnCode := ⟨3, false, [(.tmp 2, false, 0)], k101⟩
def c102 : FnCode := ⟨30, false, [(.tmp 4, false, 0), (.tmp 5, false, 0)], k102⟩
def c103 : FnCode := ⟨54, true, [(.tmp 6, false, 0)], k103⟩
def c104 : FnCode := ⟨9, true, [(.tmp 4, false, 0)], k104⟩
def c105 : FnCode := ⟨6, false, [(.tmp 2, false, 0)], k105⟩
def c106 : FnCode := ⟨34, false, [(.cell 4 63, true, 2), (.tmp 5, false, 0)], k106⟩
def c107 : FnCode := ⟨53, true, [], k107⟩
def c108 : FnCode := ⟨60, true, [], k108⟩
def c109 : FnCode := ⟨67, true, [], k109⟩
def c110 : FnCode := ⟨63, true, [(.tmp 8, false, 0), (.tmp 9, false, 0)], k110⟩
def c111 : FnCode := ⟨34, true, [], k111⟩
def c112 : FnCode := ⟨141, true, [(.tmp 8, false, 0)], k112⟩
def c113 : FnCode := ⟨90, true, [(.tmp 10, false, 0)], k113⟩
def c114 : FnCode := ⟨178, true, [(.tmp 10, false, 0), (.tmp 11, false, 0)], k114⟩
def c115 : FnCode := ⟨19, false, [(.tmp 2, false, 0)], k115⟩
def c116 : FnCode := ⟨25, false, [(.tmp 2, false, 0)], k116⟩
def c117 : FnCode := ⟨15, false, [(.tmp 6, false, 0)], k117⟩
def c118 : FnCode := ⟨43, true, [(.tmp 5, false, 0)], k118⟩
def c119 : FnCode := ⟨11, false, [(.tmp 2, false, 0)], k119⟩
def c120 : FnCode := ⟨19, false, [(.tmp 4, false, 0)], k120⟩
def c121 : FnCode := ⟨45, false, [(.tmp 6, false, 0), (.tmp 7, false, 0), (.tmp 8, false, 0)], k121⟩
def c122 : FnCode := ⟨14, true, [], k122⟩
def c123 : FnCode := ⟨10, false, [(.tmp 4, false, 0)], k123⟩
def c124 : FnCode := ⟨42, false, [(.tmp 2, false, 0)], k124⟩
def c125 : FnCode := ⟨7, false, [(.tmp 2, false, 0)], k125⟩
def c126 : FnCode := ⟨18, true, [], k126⟩
def c127 : FnCode := ⟨14, false, [(.tmp 2, false, 0)], k127⟩
def c128 : FnCode := ⟨8, true, [(.tmp 2, false, 0)], k128⟩
def c129 : FnCode := ⟨12, false, [(.tmp 2, false, 0)], k129⟩
def c130 : FnCode := ⟨31, true, [(.cell 2 152, true, 2)], k130⟩
def c131 : FnCode := ⟨27, true, [], k131⟩
def c132 : FnCode := ⟨58, true, [], k132⟩
def c133 : FnCode := ⟨16, false, [(.tmp 4, false, 0)], k133⟩
def c134 : FnCode := ⟨17, false, [(.tmp 4, false, 0), (.tmp 5, false, 0)], k134⟩
def c135 : FnCode := ⟨51, false, [(.tmp 4, false, 0), (.tmp 5, false, 0)], k135⟩
def c136 : FnCode := ⟨19, true, [(.tmp 4, false, 0)], k136⟩
def c137 : FnCode := ⟨15, false, [(.tmp 4, false, 0)], k137⟩
def c138 : FnCode := ⟨82, true, [], k138⟩
def c139 : FnCode := ⟨7, false, [(.tmp 2, false, 0)], k139⟩
def c140 : FnCode := ⟨33, true, [(.tmp 2, false, 0)], k140⟩
def c141 : FnCode := ⟨18, true, [(.tmp 8, false, 0)], k141⟩
def c142 : FnCode := ⟨41, true, [(.tmp 12, false, 0)], k142⟩
def c143 : FnCode := ⟨13, false, [(.tmp 2, false, 0), (.tmp 3, false, 0)], k143⟩
def c144 : FnCode := ⟨49, false, [(.cell 6 207, true, 4), (.tmp 7, false, 0)], k144⟩
def c145 : FnCode := ⟨148, true, [], k145⟩
def c146 : FnCode := ⟨15, false, [(.tmp 6, false, 0)], k146⟩
def c147 : FnCode := ⟨63, false, [(.tmp 2, false, 0), (.tmp 3, false, 0)], k147⟩
def c148 : FnCode := ⟨54, false, [(.tmp 4, false, 0), (.tmp 5, false, 0)], k148⟩
def c149 : FnCode := ⟨32, true, [(.tmp 10, false, 0), (.tmp 11, false, 0)], k149⟩
def c150 : FnCode := ⟨57, false, [(.tmp 2, false, 0)], k150⟩
def c151 : FnCode := ⟨53, true, [], k151⟩
def c152 : FnCode := ⟨60, true, [], k152⟩
def c153 : FnCode := ⟨67, true, [], k153⟩
def c154 : FnCode := ⟨63, true, [(.tmp 8, false, 0), (.tmp 9, false, 0)], k154⟩
def c155 : FnCode := ⟨34, true, [], k155⟩
def c156 : FnCode := ⟨141, true, [(.tmp 8, false, 0)], k156⟩
def c157 : FnCode := ⟨90, true, [(.tmp 10, false, 0)], k157⟩
def c158 : FnCode := ⟨178, true, [(.tmp 10, false, 0), (.tmp 11, false, 0)], k158⟩
def c159 : FnCode := ⟨17, false, [(.tmp 4, false, 0)], k159⟩
def c160 : FnCode := ⟨6, false, [(.tmp 2, false, 0)], k160⟩
def c161 : FnCode := ⟨28, true, [], k161⟩
def c162 : FnCode := ⟨82, true, [], k162⟩
def c163 : FnCode := ⟨18, true, [(.tmp 8, false, 0)], k163⟩
def c164 : FnCode := ⟨41, true, [(.tmp 12, false, 0)], k164⟩
def c165 : FnCode := ⟨32, true, [(.tmp 10, false, 0), (.tmp 11, false, 0)], k165⟩
def codes : List (Nat × FnCode) := [(6, c6), (9, c9), (10, c10), (16, c16), (18, c18), (21, c21), (23, c23), (25, c25), (26, c26), (28, c28), (29, c29), (34, c34), (35, c35), (36, c36), (37, c37), (38, c38), (39, c39), (40, c40), (41, c41), (42, c42), (43, c43), (44, c44), (45, c45), (46, c46), (47, c47), (48, c48), (49, c49), (50, c50), (51, c51), (52, c52), (53, c53), (54, c54), (55, c55), (56, c56), (57, c57), (58, c58), (59, c59), (60, c60), (61, c61), (62, c62), (63, c63), (64, c64), (65, c65), (66, c66), (67, c67), (68, c68), (69, c69), (70, c70), (71, c71), (72, c72), (73, c73), (74, c74), (75, c75), (76, c76), (77, c77), (78, c78), (79, c79), (80, c80), (81, c81), (82, c82), (83, c83), (84, c84), (85, c85), (86, c86), (87, c87), (88, c88), (89, c89), (90, c90), (91, c91), (92, c92), (93, c93), (94, c94), (95, c95), (96, c96), (97, c97), (98, c98), (99, c99), (100, c100), (101, c101), (102, c102), (103, c103), (104, c104), (105, c105), (106, c106), (107, c107), (108, c108), (109, c109), (110, c110), (111, c111), (112, c112), (113, c113), (114, c114), (115, c115), (116, c116), (117, c117), (118, c118), (119, c119), (120, c120), (121, c121), (122, c122), (123, c123), (124, c124), (125, c125), (126, c126), (127, c127), (128, c128), (129, c129), (130, c130), (131, c131), (132, c132), (133, c133), (134, c134), (135, c135), (136, c136), (137, c137), (138, c138), (139, c139), (140, c140), (141, c141), (142, c142), (143, c143), (144, c144), (145, c145), (146, c146), (147, c147), (148, c148), (149, c149), (150, c150), (151, c151), (152, c152), (153, c153), (154, c154), (155, c155), (156, c156), (157, c157), (158, c158), (159, c159), (160, c160), (161, c161), (162, c162), (163, c163), (164, c164), (165, c165)]
def codeAt (f : Nat) : Option FnCode := (bif Nat.blt f 94 then (bif Nat.blt f 58 then (bif Nat.blt f 40 then (bif Nat.blt f 26 then (bif Nat.blt f 18 then (bif Nat.blt f 10 then (bif Nat.blt f 9 then (bif Nat.beq f 6 then some c6 else none) else (bif Nat.beq f 9 then some c9 else none)) else (bif Nat.blt f 16 then (bif Nat.beq f 10 then some c10 else none) else (bif Nat.beq f 16 then some c16 else none))) else (bif Nat.blt f 23 then (bif Nat.blt f 21 then (bif Nat.beq f 18 then some c18 else none) else (bif Nat.beq f 21 then some c21 else none)) else (bif Nat.blt f 25 then (bif Nat.beq f 23 then some c23 else none) else (bif Nat.beq f 25 then some c25 else none)))) else (bif Nat.blt f 35 then (bif Nat.blt f 29 then (bif Nat.blt f 28 then (bif Nat.beq f 26 then some c26 else none) else (bif Nat.beq f 28 then some c28 else none)) else (bif Nat.blt f 34 then (bif Nat.beq f 29 then some c29 else none) else (bif Nat.beq f 34 then some c34 else none))) else (bif Nat.blt f 37 then (bif Nat.blt f 36 then (bif Nat.beq f 35 then some c35 else none) else (bif Nat.beq f 36 then some c36 else none)) else (bif Nat.blt f 38 then (bif Nat.beq f 37 then some c37 else none) else (bif Nat.blt f 39 then (bif Nat.beq f 38 then some c38 else none) else (bif Nat.beq f 39 then some c39 else none)))))) else (bif Nat.blt f 49 then (bif Nat.blt f 44 then (bif Nat.blt f 42 then (bif Nat.blt f 41 then (bif Nat.beq f 40 then some c40 else none) else (bif Nat.beq f 41 then some c41 else none)) else (bif Nat.blt f 43 then (bif Nat.beq f 42 then some c42 else none) else (bif Nat.beq f 43 then some c43 else none))) else (bif Nat.blt f 46 then (bif Nat.blt f 45 then (bif Nat.beq f 44 then some c44 else none) else (bif Nat.beq f 45 then some c45 else none)) else (bif Nat.blt f 47 then (bif Nat.beq f 46 then some c46 else none) else (bif Nat.blt f 48 then (bif Nat.beq f 47 then some c47 else none) else (bif Nat.beq f 48 then some c48 else none))))) else (bif Nat.blt f 53 then (bif Nat.blt f 51 then (bif Nat.blt f 50 then (bif Nat.beq f 49 then some c49 else none) else (bif Nat.beq f 50 then some c50 else none)) else (bif Nat.blt f 52 then (bif Nat.beq f 51 then some c51 else none) else (bif Nat.beq f 52 then some c52 else none))) else (bif Nat.blt f 55 then (bif Nat.blt f 54 then (bif Nat.beq f 53 then some c53 else none) else (bif Nat.beq f 54 then some c54 else none)) else (bif Nat.blt f 56 then (bif Nat.beq f 55 then some c55 else none) else (bif Nat.blt f 57 then (bif Nat.beq f 56 then some c56 else none) else (bif Nat.beq f 57 then some c57 else none))))))) else (bif Nat.blt f 76 then (bif Nat.blt f 67 then (bif Nat.blt f 62 then (bif Nat.blt f 60 then (bif Nat.blt f 59 then (bif Nat.beq f 58 then some c58 else none) else (bif Nat.beq f 59 then some c59 else none)) else (bif Nat.blt f 61 then (bif Nat.beq f 60 then some c60 else none) else (bif Nat.beq f 61 then some c61 else none))) else (bif Nat.blt f 64 then (bif Nat.blt f 63 then (bif Nat.beq f 62 then some c62 else none) else (bif Nat.beq f 63 then some c63 else none)) else (bif Nat.blt f 65 then (bif Nat.beq f 64 then some c64 else none) else (bif Nat.blt f 66 then (bif Nat.beq f 65 then some c65 else none) else (bif Nat.beq f 66 then some c66 else none))))) else (bif Nat.blt f 71 then (bif Nat.blt f 69 then (bif Nat.blt f 68 then (bif Nat.beq f 67 then some c67 else none) else (bif Nat.beq f 68 then some c68 else none)) else (bif Nat.blt f 70 then (bif Nat.beq f 69 then some c69 else none) else (bif Nat.beq f 70 then some c70 else none))) else (bif Nat.blt f 73 then (bif Nat.blt f 72 then (bif Nat.beq f 71 then some c71 else none) else (bif Nat.beq f 72 then some c72 else none)) else (bif Nat.blt f 74 then (bif Nat.beq f 73 then some c73 else none) else (bif Nat.blt f 75 then (bif Nat.beq f 74 then some c74 else none) else (bif Nat.beq f 75 then some c75 else none)))))) else (bif Nat.blt f 85 then (bif Nat.blt f 80 then (bif Nat.blt f 78 then (bif Nat.blt f 77 then (bif Nat.beq f 76 then some c76 else none) else (bif Nat.beq f 77 then some c77 else none)) else (bif Nat.blt f 79 then (bif Nat.beq f 78 then some c78 else none) else (bif Nat.beq f 79 then some c79 else none))) else (bif Nat.blt f 82 then (bif Nat.blt f 81 then (bif Nat.beq f 80 then some c80 else none) else (bif Nat.beq f 81 then some c81 else none)) else (bif Nat.blt f 83 then (bif Nat.beq f 82 then some c82 else none) else (bif Nat.blt f 84 then (bif Nat.beq f 83 then some c83 else none) else (bif Nat.beq f 84 then some c84 else none))))) else (bif Nat.blt f 89 then (bif Nat.blt f 87 then (bif Nat.blt f 86 then (bif Nat.beq f 85 then some c85 else none) else (bif Nat.beq f 86 then some c86 else none)) else (bif Nat.blt f 88 then (bif Nat.beq f 87 then some c87 else none) else (bif Nat.beq f 88 then some c88 else none))) else (bif Nat.blt f 91 then (bif Nat.blt f 90 then (bif Nat.beq f 89 then some c89 else none) else (bif Nat.beq f 90 then some c90 else none)) else (bif Nat.blt f 92 then (bif Nat.beq f 91 then some c91 else none) else (bif Nat.blt f 93 then (bif Nat.beq f 92 then some c92 else none) else (bif Nat.beq f 93 then some c93 else none)))))))) else (bif Nat.blt f 130 then (bif Nat.blt f 112 then (bif Nat.blt f 103 then (bif Nat.blt f 98 then (bif Nat.blt f 96 then (bif Nat.blt f 95 then (bif Nat.beq f 94 then some c94 else none) else (bif Nat.beq f 95 then some c95 else none)) else (bif Nat.blt f 97 then (bif Nat.beq f 96 then some c96 else none) else (bif Nat.beq f 97 then some c97 else none))) else (bif Nat.blt f 100 then (bif Nat.blt f 99 then (bif Nat.beq f 98 then some c98 else none) else (bif Nat.beq f 99 then some c99 else none)) else (bif Nat.blt f 101 then (bif Nat.beq f 100 then some c100 else none) else (bif Nat.blt f 102 then (bif Nat.beq f 101 then some c101 else none) else (bif Nat.beq f 102 then some c102 else none))))) else (bif Nat.blt f 107 then (bif Nat.blt f 105 then (bif Nat.blt f 104 then (bif Nat.beq f 103 then some c103 else none) else (bif Nat.beq f 104 then some c104 else none)) else (bif Nat.blt f 106 then (bif Nat.beq f 105 then some c105 else none) else (bif Nat.beq f 106 then some c106 else none))) else (bif Nat.blt f 109 then (bif Nat.blt f 108 then (bif Nat.beq f 107 then some c107 else none) else (bif Nat.beq f 108 then some c108 else none)) else (bif Nat.blt f 110 then (bif Nat.beq f 109 then some c109 else none) else (bif Nat.blt f 111 then (bif Nat.beq f 110 then some c110 else none) else (bif Nat.beq f 111 then some c111 else none)))))) else (bif Nat.blt f 121 then (bif Nat.blt f 116 then (bif Nat.blt f 114 then (bif Nat.blt f 113 then (bif Nat.beq f 112 then some c112 else none) else (bif Nat.beq f 113 then some c113 else none)) else (bif Nat.blt f 115 then (bif Nat.beq f 114 then some c114 else none) else (bif Nat.beq f 115 then some c115 else none))) else (bif Nat.blt f 118 then (bif Nat.blt f 117 then (bif Nat.beq f 116 then some c116 else none) else (bif Nat.beq f 117 then some c117 else none)) else (bif Nat.blt f 119 then (bif Nat.beq f 118 then some c118 else none) else (bif Nat.blt f 120 then (bif Nat.beq f 119 then some c119 else none) else (bif Nat.beq f 120 then some c120 else none))))) else (bif Nat.blt f 125 then (bif Nat.blt f 123 then (bif Nat.blt f 122 then (bif Nat.beq f 121 then some c121 else none) else (bif Nat.beq f 122 then some c122 else none)) else (bif Nat.blt f 124 then (bif Nat.beq f 123 then some c123 else none) else (bif Nat.beq f 124 then some c124 else none))) else (bif Nat.blt f 127 then (bif Nat.blt f 126 then (bif Nat.beq f 125 then some c125 else none) else (bif Nat.beq f 126 then some c126 else none)) else (bif Nat.blt f 128 then (bif Nat.beq f 127 then some c127 else none) else (bif Nat.blt f 129 then (bif Nat.beq f 128 then some c128 else none) else (bif Nat.beq f 129 then some c129 else none))))))) else (bif Nat.blt f 148 then (bif Nat.blt f 139 then (bif Nat.blt f 134 then (bif Nat.blt f 132 then (bif Nat.blt f 131 then (bif Nat.beq f 130 then some c130 else none) else (bif Nat.beq f 131 then some c131 else none)) else (bif Nat.blt f 133 then (bif Nat.beq f 132 then some c132 else none) else (bif Nat.beq f 133 then some c133 else none))) else (bif Nat.blt f 136 then (bif Nat.blt f 135 then (bif Nat.beq f 134 then some c134 else none) else (bif Nat.beq f 135 then some c135 else none)) else (bif Nat.blt f 137 then (bif Nat.beq f 136 then some c136 else none) else (bif Nat.blt f 138 then (bif Nat.beq f 137 then some c137 else none) else (bif Nat.beq f 138 then some c138 else none))))) else (bif Nat.blt f 143 then (bif Nat.blt f 141 then (bif Nat.blt f 140 then (bif Nat.beq f 139 then some c139 else none) else (bif Nat.beq f 140 then some c140 else none)) else (bif Nat.blt f 142 then (bif Nat.beq f 141 then some c141 else none) else (bif Nat.beq f 142 then some c142 else none))) else (bif Nat.blt f 145 then (bif Nat.blt f 144 then (bif Nat.beq f 143 then some c143 else none) else (bif Nat.beq f 144 then some c144 else none)) else (bif Nat.blt f 146 then (bif Nat.beq f 145 then some c145 else none) else (bif Nat.blt f 147 then (bif Nat.beq f 146 then some c146 else none) else (bif Nat.beq f 147 then some c147 else none)))))) else (bif Nat.blt f 157 then (bif Nat.blt f 152 then (bif Nat.blt f 150 then (bif Nat.blt f 149 then (bif Nat.beq f 148 then some c148 else none) else (bif Nat.beq f 149 then some c149 else none)) else (bif Nat.blt f 151 then (bif Nat.beq f 150 then some c150 else none) else (bif Nat.beq f 151 then some c151 else none))) else (bif Nat.blt f 154 then (bif Nat.blt f 153 then (bif Nat.beq f 152 then some c152 else none) else (bif Nat.beq f 153 then some c153 else none)) else (bif Nat.blt f 155 then (bif Nat.beq f 154 then some c154 else none) else (bif Nat.blt f 156 then (bif Nat.beq f 155 then some c155 else none) else (bif Nat.beq f 156 then some c156 else none))))) else (bif Nat.blt f 161 then (bif Nat.blt f 159 then (bif Nat.blt f 158 then (bif Nat.beq f 157 then some c157 else none) else (bif Nat.beq f 158 then some c158 else none)) else (bif Nat.blt f 160 then (bif Nat.beq f 159 then some c159 else none) else (bif Nat.beq f 160 then some c160 else none))) else (bif Nat.blt f 163 then (bif Nat.blt f 162 then (bif Nat.beq f 161 then some c161 else none) else (bif Nat.beq f 162 then some c162 else none)) else (bif Nat.blt f 164 then (bif Nat.beq f 163 then some c163 else none) else (bif Nat.blt f 165 then (bif Nat.beq f 164 then some c164 else none) else (bif Nat.beq f 165 then some c165 else none)))))))))
theorem kc6 : codeOf Tryz.prog 6 = some (78, [(.tmp 6, false, 0)], k6) := by kernel_rfl
theorem kc9 : codeOf Tryz.prog 9 = some (26, [(.tmp 4, false, 0)], k9) := by kernel_rfl
theorem kc10 : codeOf Tryz.prog 10 = some (5, [(.tmp 2, false, 0)], k10) := by kernel_rfl
theorem kc16 : codeOf Tryz.prog 16 = some (8, [(.tmp 4, false, 0)], k16) := by kernel_rfl
theorem kc18 : codeOf Tryz.prog 18 = some (112, [(.tmp 0, false, 0)], k18) := by kernel_rfl
theorem kc21 : codeOf Tryz.prog 21 = some (9, [(.tmp 4, false, 0)], k21) := by kernel_rfl
theorem kc23 : codeOf Tryz.prog 23 = some (57, [(.tmp 6, false, 0)], k23) := by kernel_rfl
theorem kc25 : codeOf Tryz.prog 25 = some (34, [(.tmp 2, false, 0)], k25) := by kernel_rfl
theorem kc26 : codeOf Tryz.prog 26 = some (12, [(.tmp 4, false, 0)], k26) := by kernel_rfl
theorem kc28 : codeOf Tryz.prog 28 = some (46, [(.tmp 6, false, 0)], k28) := by kernel_rfl
theorem kc29 : codeOf Tryz.prog 29 = some (6, [(.tmp 4, false, 0)], k29) := by kernel_rfl
theorem kc34 : codeOf Tryz.prog 34 = some (10, [(.tmp 4, false, 0)], k34) := by kernel_rfl
theorem kc35 : codeOf Tryz.prog 35 = some (24, [(.tmp 6, false, 0), (.tmp 7, false, 0)], k35) := by kernel_rfl
theorem kc36 : codeOf Tryz.prog 36 = some (37, [(.cell 6 56, true, 3), (.tmp 7, false, 0)], k36) := by kernel_rfl
theorem kc37 : codeOf Tryz.prog 37 = some (72, [(.cell 8 3, false, 1), (.cell 9 3, false, 1), (.tmp 10, false, 0)], k37) := by kernel_rfl
theorem kc38 : codeOf Tryz.prog 38 = some (26, [(.tmp 4, false, 0), (.cell 5 63, true, 2), (.tmp 6, false, 0)], k38) := by kernel_rfl
theorem kc39 : codeOf Tryz.prog 39 = some (9, [(.tmp 4, false, 0)], k39) := by kernel_rfl
theorem kc40 : codeOf Tryz.prog 40 = some (30, [(.tmp 2, false, 0)], k40) := by kernel_rfl
theorem kc41 : codeOf Tryz.prog 41 = some (10, [(.tmp 3, false, 0)], k41) := by kernel_rfl
theorem kc42 : codeOf Tryz.prog 42 = some (15, [(.tmp 6, false, 0)], k42) := by kernel_rfl
theorem kc43 : codeOf Tryz.prog 43 = some (50, [(.tmp 4, false, 0)], k43) := by kernel_rfl
theorem kc44 : codeOf Tryz.prog 44 = some (33, [(.tmp 4, false, 0)], k44) := by kernel_rfl
theorem kc45 : codeOf Tryz.prog 45 = some (21, [(.tmp 6, false, 0), (.tmp 7, false, 0)], k45) := by kernel_rfl
theorem kc46 : codeOf Tryz.prog 46 = some (37, [(.tmp 6, false, 0), (.tmp 7, false, 0)], k46) := by kernel_rfl
theorem kc47 : codeOf Tryz.prog 47 = some (38, [(.tmp 4, false, 0)], k47) := by kernel_rfl
theorem kc48 : codeOf Tryz.prog 48 = some (47, [(.cell 6 79, true, 5), (.tmp 7, false, 0)], k48) := by kernel_rfl
theorem kc49 : codeOf Tryz.prog 49 = some (92, [(.tmp 6, false, 0)], k49) := by kernel_rfl
theorem kc50 : codeOf Tryz.prog 50 = some (111, [(.cell 4 87, true, 6)], k50) := by kernel_rfl
theorem kc51 : codeOf Tryz.prog 51 = some (6, [(.tmp 4, false, 0)], k51) := by kernel_rfl
theorem kc52 : codeOf Tryz.prog 52 = some (18, [(.tmp 2, false, 0)], k52) := by kernel_rfl
theorem kc53 : codeOf Tryz.prog 53 = some (42, [(.tmp 4, false, 0), (.tmp 5, false, 0)], k53) := by kernel_rfl
theorem kc54 : codeOf Tryz.prog 54 = some (33, [(.cell 4 63, true, 2)], k54) := by kernel_rfl
theorem kc55 : codeOf Tryz.prog 55 = some (24, [(.tmp 4, false, 0)], k55) := by kernel_rfl
theorem kc56 : codeOf Tryz.prog 56 = some (19, [(.tmp 4, false, 0)], k56) := by kernel_rfl
theorem kc57 : codeOf Tryz.prog 57 = some (19, [(.tmp 4, false, 0)], k57) := by kernel_rfl
theorem kc58 : codeOf Tryz.prog 58 = some (14, [], k58) := by kernel_rfl
theorem kc59 : codeOf Tryz.prog 59 = some (10, [(.tmp 4, false, 0)], k59) := by kernel_rfl
theorem kc60 : codeOf Tryz.prog 60 = some (20, [(.tmp 4, false, 0)], k60) := by kernel_rfl
theorem kc61 : codeOf Tryz.prog 61 = some (4, [(.tmp 2, false, 0)], k61) := by kernel_rfl
theorem kc62 : codeOf Tryz.prog 62 = some (6, [(.tmp 2, false, 0)], k62) := by kernel_rfl
theorem kc63 : codeOf Tryz.prog 63 = some (25, [(.tmp 6, false, 0), (.tmp 7, false, 0)], k63) := by kernel_rfl
theorem kc64 : codeOf Tryz.prog 64 = some (66, [(.tmp 2, false, 0)], k64) := by kernel_rfl
theorem kc65 : codeOf Tryz.prog 65 = some (30, [(.tmp 2, false, 0)], k65) := by kernel_rfl
theorem kc66 : codeOf Tryz.prog 66 = some (8, [(.tmp 3, false, 0)], k66) := by kernel_rfl
theorem kc67 : codeOf Tryz.prog 67 = some (9, [(.tmp 4, false, 0)], k67) := by kernel_rfl
theorem kc68 : codeOf Tryz.prog 68 = some (9, [(.tmp 4, false, 0)], k68) := by kernel_rfl
theorem kc69 : codeOf Tryz.prog 69 = some (8, [(.tmp 3, false, 0)], k69) := by kernel_rfl
theorem kc70 : codeOf Tryz.prog 70 = some (15, [(.tmp 2, false, 0), (.tmp 3, false, 0)], k70) := by kernel_rfl
theorem kc71 : codeOf Tryz.prog 71 = some (19, [(.tmp 4, false, 0)], k71) := by kernel_rfl
theorem kc72 : codeOf Tryz.prog 72 = some (42, [(.tmp 4, false, 0), (.tmp 5, false, 0)], k72) := by kernel_rfl
theorem kc73 : codeOf Tryz.prog 73 = some (24, [(.cell 2 119, true, 2), (.tmp 3, false, 0)], k73) := by kernel_rfl
theorem kc74 : codeOf Tryz.prog 74 = some (48, [(.tmp 4, false, 0)], k74) := by kernel_rfl
theorem kc75 : codeOf Tryz.prog 75 = some (13, [], k75) := by kernel_rfl
theorem kc76 : codeOf Tryz.prog 76 = some (42, [(.tmp 8, false, 0)], k76) := by kernel_rfl
theorem kc77 : codeOf Tryz.prog 77 = some (11, [(.tmp 2, false, 0)], k77) := by kernel_rfl
theorem kc78 : codeOf Tryz.prog 78 = some (27, [(.cell 2 63, true, 2), (.tmp 3, false, 0)], k78) := by kernel_rfl
theorem kc79 : codeOf Tryz.prog 79 = some (11, [(.tmp 2, false, 0)], k79) := by kernel_rfl
theorem kc80 : codeOf Tryz.prog 80 = some (148, [], k80) := by kernel_rfl
theorem kc81 : codeOf Tryz.prog 81 = some (8, [(.tmp 2, false, 0)], k81) := by kernel_rfl
theorem kc82 : codeOf Tryz.prog 82 = some (6, [(.tmp 2, false, 0)], k82) := by kernel_rfl
theorem kc83 : codeOf Tryz.prog 83 = some (16, [], k83) := by kernel_rfl
theorem kc84 : codeOf Tryz.prog 84 = some (30, [(.tmp 2, false, 0)], k84) := by kernel_rfl
theorem kc85 : codeOf Tryz.prog 85 = some (26, [(.tmp 6, false, 0)], k85) := by kernel_rfl
theorem kc86 : codeOf Tryz.prog 86 = some (8, [], k86) := by kernel_rfl
theorem kc87 : codeOf Tryz.prog 87 = some (25, [(.tmp 7, false, 0)], k87) := by kernel_rfl
theorem kc88 : codeOf Tryz.prog 88 = some (28, [(.cell 6 40, true, 2)], k88) := by kernel_rfl
theorem kc89 : codeOf Tryz.prog 89 = some (49, [(.tmp 2, false, 0)], k89) := by kernel_rfl
theorem kc90 : codeOf Tryz.prog 90 = some (25, [(.tmp 2, false, 0)], k90) := by kernel_rfl
theorem kc91 : codeOf Tryz.prog 91 = some (43, [(.tmp 2, false, 0)], k91) := by kernel_rfl
theorem kc92 : codeOf Tryz.prog 92 = some (19, [(.tmp 2, false, 0)], k92) := by kernel_rfl
theorem kc93 : codeOf Tryz.prog 93 = some (21, [], k93) := by kernel_rfl
theorem kc94 : codeOf Tryz.prog 94 = some (30, [(.tmp 2, false, 0)], k94) := by kernel_rfl
theorem kc95 : codeOf Tryz.prog 95 = some (19, [(.tmp 4, false, 0)], k95) := by kernel_rfl
theorem kc96 : codeOf Tryz.prog 96 = some (10, [(.tmp 5, false, 0)], k96) := by kernel_rfl
theorem kc97 : codeOf Tryz.prog 97 = some (15, [(.tmp 6, false, 0)], k97) := by kernel_rfl
theorem kc98 : codeOf Tryz.prog 98 = some (31, [(.tmp 4, false, 0)], k98) := by kernel_rfl
theorem kc99 : codeOf Tryz.prog 99 = some (41, [(.cell 2 152, true, 2), (.tmp 3, false, 0)], k99) := by kernel_rfl
theorem kc100 : codeOf Tryz.prog 100 = some (81, [(.cell 4 157, true, 2)], k100) := by kernel_rfl
theorem kc101 : codeOf Tryz.prog 101 = some (3, [(.tmp 2, false, 0)], k101) := by kernel_rfl
theorem kc102 : codeOf Tryz.prog 102 = some (30, [(.tmp 4, false, 0), (.tmp 5, false, 0)], k102) := by kernel_rfl
theorem kc103 : codeOf Tryz.prog 103 = some (54, [(.tmp 6, false, 0)], k103) := by kernel_rfl
theorem kc104 : codeOf Tryz.prog 104 = some (9, [(.tmp 4, false, 0)], k104) := by kernel_rfl
theorem kc105 : codeOf Tryz.prog 105 = some (6, [(.tmp 2, false, 0)], k105) := by kernel_rfl
theorem kc106 : codeOf Tryz.prog 106 = some (34, [(.cell 4 63, true, 2), (.tmp 5, false, 0)], k106) := by kernel_rfl
theorem kc107 : codeOf Tryz.prog 107 = some (53, [], k107) := by kernel_rfl
theorem kc108 : codeOf Tryz.prog 108 = some (60, [], k108) := by kernel_rfl
theorem kc109 : codeOf Tryz.prog 109 = some (67, [], k109) := by kernel_rfl
theorem kc110 : codeOf Tryz.prog 110 = some (63, [(.tmp 8, false, 0), (.tmp 9, false, 0)], k110) := by kernel_rfl
theorem kc111 : codeOf Tryz.prog 111 = some (34, [], k111) := by kernel_rfl
theorem kc112 : codeOf Tryz.prog 112 = some (141, [(.tmp 8, false, 0)], k112) := by kernel_rfl
theorem kc113 : codeOf Tryz.prog 113 = some (90, [(.tmp 10, false, 0)], k113) := by kernel_rfl
theorem kc114 : codeOf Tryz.prog 114 = some (178, [(.tmp 10, false, 0), (.tmp 11, false, 0)], k114) := by kernel_rfl
theorem kc115 : codeOf Tryz.prog 115 = some (19, [(.tmp 2, false, 0)], k115) := by kernel_rfl
theorem kc116 : codeOf Tryz.prog 116 = some (25, [(.tmp 2, false, 0)], k116) := by kernel_rfl
theorem kc117 : codeOf Tryz.prog 117 = some (15, [(.tmp 6, false, 0)], k117) := by kernel_rfl
theorem kc118 : codeOf Tryz.prog 118 = some (43, [(.tmp 5, false, 0)], k118) := by kernel_rfl
theorem kc119 : codeOf Tryz.prog 119 = some (11, [(.tmp 2, false, 0)], k119) := by kernel_rfl
theorem kc120 : codeOf Tryz.prog 120 = some (19, [(.tmp 4, false, 0)], k120) := by kernel_rfl
theorem kc121 : codeOf Tryz.prog 121 = some (45, [(.tmp 6, false, 0), (.tmp 7, false, 0), (.tmp 8, false, 0)], k121) := by kernel_rfl
theorem kc122 : codeOf Tryz.prog 122 = some (14, [], k122) := by kernel_rfl
theorem kc123 : codeOf Tryz.prog 123 = some (10, [(.tmp 4, false, 0)], k123) := by kernel_rfl
theorem kc124 : codeOf Tryz.prog 124 = some (42, [(.tmp 2, false, 0)], k124) := by kernel_rfl
theorem kc125 : codeOf Tryz.prog 125 = some (7, [(.tmp 2, false, 0)], k125) := by kernel_rfl
theorem kc126 : codeOf Tryz.prog 126 = some (18, [], k126) := by kernel_rfl
theorem kc127 : codeOf Tryz.prog 127 = some (14, [(.tmp 2, false, 0)], k127) := by kernel_rfl
theorem kc128 : codeOf Tryz.prog 128 = some (8, [(.tmp 2, false, 0)], k128) := by kernel_rfl
theorem kc129 : codeOf Tryz.prog 129 = some (12, [(.tmp 2, false, 0)], k129) := by kernel_rfl
theorem kc130 : codeOf Tryz.prog 130 = some (31, [(.cell 2 152, true, 2)], k130) := by kernel_rfl
theorem kc131 : codeOf Tryz.prog 131 = some (27, [], k131) := by kernel_rfl
theorem kc132 : codeOf Tryz.prog 132 = some (58, [], k132) := by kernel_rfl
theorem kc133 : codeOf Tryz.prog 133 = some (16, [(.tmp 4, false, 0)], k133) := by kernel_rfl
theorem kc134 : codeOf Tryz.prog 134 = some (17, [(.tmp 4, false, 0), (.tmp 5, false, 0)], k134) := by kernel_rfl
theorem kc135 : codeOf Tryz.prog 135 = some (51, [(.tmp 4, false, 0), (.tmp 5, false, 0)], k135) := by kernel_rfl
theorem kc136 : codeOf Tryz.prog 136 = some (19, [(.tmp 4, false, 0)], k136) := by kernel_rfl
theorem kc137 : codeOf Tryz.prog 137 = some (15, [(.tmp 4, false, 0)], k137) := by kernel_rfl
theorem kc138 : codeOf Tryz.prog 138 = some (82, [], k138) := by kernel_rfl
theorem kc139 : codeOf Tryz.prog 139 = some (7, [(.tmp 2, false, 0)], k139) := by kernel_rfl
theorem kc140 : codeOf Tryz.prog 140 = some (33, [(.tmp 2, false, 0)], k140) := by kernel_rfl
theorem kc141 : codeOf Tryz.prog 141 = some (18, [(.tmp 8, false, 0)], k141) := by kernel_rfl
theorem kc142 : codeOf Tryz.prog 142 = some (41, [(.tmp 12, false, 0)], k142) := by kernel_rfl
theorem kc143 : codeOf Tryz.prog 143 = some (13, [(.tmp 2, false, 0), (.tmp 3, false, 0)], k143) := by kernel_rfl
theorem kc144 : codeOf Tryz.prog 144 = some (49, [(.cell 6 207, true, 4), (.tmp 7, false, 0)], k144) := by kernel_rfl
theorem kc145 : codeOf Tryz.prog 145 = some (148, [], k145) := by kernel_rfl
theorem kc146 : codeOf Tryz.prog 146 = some (15, [(.tmp 6, false, 0)], k146) := by kernel_rfl
theorem kc147 : codeOf Tryz.prog 147 = some (63, [(.tmp 2, false, 0), (.tmp 3, false, 0)], k147) := by kernel_rfl
theorem kc148 : codeOf Tryz.prog 148 = some (54, [(.tmp 4, false, 0), (.tmp 5, false, 0)], k148) := by kernel_rfl
theorem kc149 : codeOf Tryz.prog 149 = some (32, [(.tmp 10, false, 0), (.tmp 11, false, 0)], k149) := by kernel_rfl
theorem kc150 : codeOf Tryz.prog 150 = some (57, [(.tmp 2, false, 0)], k150) := by kernel_rfl
theorem kc151 : codeOf Tryz.prog 151 = some (53, [], k151) := by kernel_rfl
theorem kc152 : codeOf Tryz.prog 152 = some (60, [], k152) := by kernel_rfl
theorem kc153 : codeOf Tryz.prog 153 = some (67, [], k153) := by kernel_rfl
theorem kc154 : codeOf Tryz.prog 154 = some (63, [(.tmp 8, false, 0), (.tmp 9, false, 0)], k154) := by kernel_rfl
theorem kc155 : codeOf Tryz.prog 155 = some (34, [], k155) := by kernel_rfl
theorem kc156 : codeOf Tryz.prog 156 = some (141, [(.tmp 8, false, 0)], k156) := by kernel_rfl
theorem kc157 : codeOf Tryz.prog 157 = some (90, [(.tmp 10, false, 0)], k157) := by kernel_rfl
theorem kc158 : codeOf Tryz.prog 158 = some (178, [(.tmp 10, false, 0), (.tmp 11, false, 0)], k158) := by kernel_rfl
theorem kc159 : codeOf Tryz.prog 159 = some (17, [(.tmp 4, false, 0)], k159) := by kernel_rfl
theorem kc160 : codeOf Tryz.prog 160 = some (6, [(.tmp 2, false, 0)], k160) := by kernel_rfl
theorem kc161 : codeOf Tryz.prog 161 = some (28, [], k161) := by kernel_rfl
theorem kc162 : codeOf Tryz.prog 162 = some (82, [], k162) := by kernel_rfl
theorem kc163 : codeOf Tryz.prog 163 = some (18, [(.tmp 8, false, 0)], k163) := by kernel_rfl
theorem kc164 : codeOf Tryz.prog 164 = some (41, [(.tmp 12, false, 0)], k164) := by kernel_rfl
theorem kc165 : codeOf Tryz.prog 165 = some (32, [(.tmp 10, false, 0), (.tmp 11, false, 0)], k165) := by kernel_rfl
end Go.Proofs.YtlddgfkdicgbeaaGreatDoor
