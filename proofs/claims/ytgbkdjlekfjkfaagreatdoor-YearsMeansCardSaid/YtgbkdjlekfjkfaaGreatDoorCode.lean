/- The small code of the functions of this program, as its own reader reads them: it is the program. -/
import Derived.Test.YtgbkdjlekfjkfaaGreatDoorProg
import Derived.Test.YtgbkdjlekfjkfaaGreatDoorCodeC
namespace Go.Proofs.YtgbkdjlekfjkfaaGreatDoor
open Go Go.Em
set_option maxRecDepth 100000
def c6 : FnCode := ⟨94, false, [(.tmp 6, false, 0)], k6⟩
def c7 : FnCode := ⟨91, false, [(.tmp 4, false, 0)], k7⟩
def c8 : FnCode := ⟨13, false, [(.tmp 2, false, 0), (.tmp 3, false, 0)], k8⟩
def c24 : FnCode := ⟨34, false, [(.cell 4 48, true, 2), (.tmp 5, false, 0)], k24⟩
def c25 : FnCode := ⟨39, false, [(.cell 4 48, true, 2), (.tmp 5, false, 0)], k25⟩
def c26 : FnCode := ⟨51, false, [(.cell 8 48, true, 2), (.cell 9 48, true, 2), (.tmp 10, false, 0)], k26⟩
def c27 : FnCode := ⟨55, false, [(.cell 8 48, true, 2), (.cell 9 48, true, 2), (.tmp 10, false, 0)], k27⟩
def c28 : FnCode := ⟨24, false, [(.tmp 4, false, 0)], k28⟩
def c29 : FnCode := ⟨31, false, [(.tmp 4, false, 0)], k29⟩
def c30 : FnCode := ⟨112, false, [(.tmp 0, false, 0)], k30⟩
def c31 : FnCode := ⟨27, false, [(.cell 2 48, true, 2), (.tmp 3, false, 0)], k31⟩
def c32 : FnCode := ⟨12, false, [(.cell 2 48, true, 2), (.tmp 3, false, 0)], k32⟩
def c33 : FnCode := ⟨42, false, [(.tmp 4, false, 0), (.tmp 5, false, 0)], k33⟩
def c34 : FnCode := ⟨35, false, [(.tmp 4, false, 0), (.tmp 5, false, 0)], k34⟩
def c35 : FnCode := ⟨26, false, [(.tmp 4, false, 0), (.cell 5 48, true, 2), (.tmp 6, false, 0)], k35⟩
def c36 : FnCode := ⟨43, false, [(.tmp 4, false, 0), (.cell 5 48, true, 2), (.tmp 6, false, 0)], k36⟩
def c37 : FnCode := ⟨26, false, [(.tmp 4, false, 0)], k37⟩
def c38 : FnCode := ⟨25, false, [(.tmp 2, false, 0)], k38⟩
def c39 : FnCode := ⟨81, false, [(.cell 4 65, true, 2)], k39⟩
def c40 : FnCode := ⟨3, false, [(.tmp 2, false, 0)], k40⟩
def c41 : FnCode := ⟨57, false, [(.tmp 2, false, 0)], k41⟩
def c45 : FnCode := ⟨45, false, [(.tmp 6, false, 0), (.tmp 7, false, 0), (.tmp 8, false, 0)], k45⟩
def c52 : FnCode := ⟨41, false, [(.cell 2 90, true, 2), (.tmp 3, false, 0)], k52⟩
def c60 : FnCode := ⟨49, false, [(.cell 6 106, true, 4), (.tmp 7, false, 0)], k60⟩
def c62 : FnCode := ⟨15, false, [(.tmp 6, false, 0)], k62⟩
def c68 : FnCode := ⟨9, false, [(.tmp 4, false, 0)], k68⟩
def c71 : FnCode := ⟨9, true, [(.tmp 4, false, 0)], k71⟩
def c79 : FnCode := ⟨8, true, [(.tmp 2, false, 0)], k79⟩
def c81 : FnCode := ⟨15, false, [(.tmp 6, false, 0)], k81⟩
def c82 : FnCode := ⟨15, false, [(.tmp 4, false, 0)], k82⟩
def c83 : FnCode := ⟨15, false, [(.tmp 6, false, 0)], k83⟩
def c84 : FnCode := ⟨14, false, [(.tmp 4, false, 0)], k84⟩
def c85 : FnCode := ⟨11, false, [(.tmp 2, false, 0)], k85⟩
def c86 : FnCode := ⟨20, false, [(.tmp 4, false, 0)], k86⟩
def c87 : FnCode := ⟨11, false, [(.tmp 2, false, 0)], k87⟩
def c88 : FnCode := ⟨24, false, [(.tmp 6, false, 0), (.tmp 7, false, 0)], k88⟩
def c89 : FnCode := ⟨37, false, [(.cell 6 135, true, 3), (.tmp 7, false, 0)], k89⟩
def c90 : FnCode := ⟨72, false, [(.cell 8 3, false, 1), (.cell 9 3, false, 1), (.tmp 10, false, 0)], k90⟩
def c91 : FnCode := ⟨57, false, [(.tmp 6, false, 0)], k91⟩
def c92 : FnCode := ⟨26, false, [(.tmp 4, false, 0)], k92⟩
def c93 : FnCode := ⟨11, false, [(.tmp 2, false, 0)], k93⟩
def c94 : FnCode := ⟨19, false, [(.tmp 2, false, 0)], k94⟩
def c95 : FnCode := ⟨27, false, [(.cell 2 48, true, 2)], k95⟩
def c96 : FnCode := ⟨33, false, [(.cell 4 48, true, 2)], k96⟩
def c97 : FnCode := ⟨19, false, [(.tmp 4, false, 0)], k97⟩
def c98 : FnCode := ⟨42, false, [(.tmp 2, false, 0)], k98⟩
def c99 : FnCode := ⟨7, false, [(.tmp 2, false, 0)], k99⟩
def c100 : FnCode := ⟨16, false, [(.tmp 4, false, 0)], k100⟩
def c101 : FnCode := ⟨63, false, [(.tmp 2, false, 0), (.tmp 3, false, 0)], k101⟩
def c102 : FnCode := ⟨28, true, [], k102⟩
def c109 : FnCode := ⟨12, false, [(.tmp 2, false, 0)], k109⟩
def c110 : FnCode := ⟨31, true, [(.cell 2 90, true, 2)], k110⟩
def c111 : FnCode := ⟨27, true, [], k111⟩
def c112 : FnCode := ⟨58, true, [], k112⟩
def c117 : FnCode := ⟨19, true, [(.tmp 4, false, 0)], k117⟩
def c123 : FnCode := ⟨19, false, [(.tmp 4, false, 0)], k123⟩
def c126 : FnCode := ⟨6, false, [(.tmp 2, false, 0)], k126⟩
def c127 : FnCode := ⟨21, false, [(.tmp 6, false, 0), (.tmp 7, false, 0)], k127⟩
def c128 : FnCode := ⟨37, false, [(.tmp 6, false, 0), (.tmp 7, false, 0)], k128⟩
def c129 : FnCode := ⟨9, false, [(.tmp 4, false, 0)], k129⟩
def c130 : FnCode := ⟨38, false, [(.tmp 4, false, 0)], k130⟩
def c131 : FnCode := ⟨47, false, [(.cell 6 175, true, 5), (.tmp 7, false, 0)], k131⟩
def c132 : FnCode := ⟨92, false, [(.tmp 6, false, 0)], k132⟩
def c133 : FnCode := ⟨111, false, [(.cell 4 183, true, 6)], k133⟩
def c134 : FnCode := ⟨6, true, [(.tmp 4, false, 0)], k134⟩
def c135 : FnCode := ⟨18, true, [(.tmp 2, false, 0)], k135⟩
def c136 : FnCode := ⟨5, true, [(.tmp 2, false, 0)], k136⟩
def c137 : FnCode := ⟨6, false, [(.tmp 2, false, 0)], k137⟩
def c138 : FnCode := ⟨21, true, [], k138⟩
def c139 : FnCode := ⟨30, false, [(.tmp 2, false, 0)], k139⟩
def c140 : FnCode := ⟨54, false, [(.tmp 4, false, 0), (.tmp 5, false, 0)], k140⟩
def c141 : FnCode := ⟨48, true, [(.tmp 4, false, 0)], k141⟩
def c150 : FnCode := ⟨6, false, [(.tmp 2, false, 0)], k150⟩
def c151 : FnCode := ⟨25, false, [(.tmp 6, false, 0), (.tmp 7, false, 0)], k151⟩
def c152 : FnCode := ⟨9, false, [(.tmp 4, false, 0)], k152⟩
def c153 : FnCode := ⟨30, false, [(.tmp 2, false, 0)], k153⟩
def c154 : FnCode := ⟨10, false, [(.tmp 3, false, 0)], k154⟩
def c155 : FnCode := ⟨66, false, [(.tmp 2, false, 0)], k155⟩
def c156 : FnCode := ⟨30, false, [(.tmp 2, false, 0)], k156⟩
def c157 : FnCode := ⟨8, false, [(.tmp 3, false, 0)], k157⟩
def c158 : FnCode := ⟨9, false, [(.tmp 4, false, 0)], k158⟩
def c159 : FnCode := ⟨8, false, [(.tmp 3, false, 0)], k159⟩
def c160 : FnCode := ⟨15, false, [(.tmp 2, false, 0), (.tmp 3, false, 0)], k160⟩
def c161 : FnCode := ⟨8, false, [(.tmp 4, false, 0)], k161⟩
def c162 : FnCode := ⟨42, false, [(.tmp 4, false, 0), (.tmp 5, false, 0)], k162⟩
def c163 : FnCode := ⟨24, false, [(.cell 2 88, true, 2), (.tmp 3, false, 0)], k163⟩
def c164 : FnCode := ⟨13, true, [], k164⟩
def c165 : FnCode := ⟨42, true, [(.tmp 8, false, 0)], k165⟩
def c166 : FnCode := ⟨46, true, [(.tmp 6, false, 0)], k166⟩
def c167 : FnCode := ⟨6, false, [(.tmp 4, false, 0)], k167⟩
def c168 : FnCode := ⟨18, true, [], k168⟩
def c169 : FnCode := ⟨14, false, [(.tmp 2, false, 0)], k169⟩
def c170 : FnCode := ⟨17, false, [(.tmp 4, false, 0)], k170⟩
def c171 : FnCode := ⟨6, false, [(.tmp 2, false, 0)], k171⟩
def c172 : FnCode := ⟨30, false, [(.tmp 4, false, 0), (.tmp 5, false, 0)], k172⟩
def c174 : FnCode := ⟨8, false, [(.tmp 2, false, 0)], k174⟩
def c175 : FnCode := ⟨30, false, [(.tmp 2, false, 0)], k175⟩
def c176 : FnCode := ⟨26, false, [(.tmp 6, false, 0)], k176⟩
def c177 : FnCode := ⟨8, true, [], k177⟩
def c178 : FnCode := ⟨25, true, [(.tmp 7, false, 0)], k178⟩
def c179 : FnCode := ⟨28, false, [(.cell 6 141, true, 2)], k179⟩
def c180 : FnCode := ⟨49, false, [(.tmp 2, false, 0)], k180⟩
def c181 : FnCode := ⟨19, false, [(.tmp 4, false, 0)], k181⟩
def c182 : FnCode := ⟨43, false, [(.tmp 2, false, 0)], k182⟩
def c183 : FnCode := ⟨19, false, [(.tmp 2, false, 0)], k183⟩
def c184 : FnCode := ⟨19, false, [(.tmp 4, false, 0)], k184⟩
def c185 : FnCode := ⟨10, true, [(.tmp 5, false, 0)], k185⟩
def c186 : FnCode := ⟨10, false, [(.tmp 4, false, 0)], k186⟩
def c187 : FnCode := ⟨15, false, [(.tmp 6, false, 0)], k187⟩
def c188 : FnCode := ⟨31, false, [(.tmp 4, false, 0)], k188⟩
def c189 : FnCode := ⟨54, true, [(.tmp 6, false, 0)], k189⟩
def c190 : FnCode := ⟨50, false, [(.tmp 4, false, 0)], k190⟩
def c191 : FnCode := ⟨33, true, [(.tmp 4, false, 0)], k191⟩
def c192 : FnCode := ⟨17, false, [(.tmp 4, false, 0), (.tmp 5, false, 0)], k192⟩
def c193 : FnCode := ⟨51, false, [(.tmp 4, false, 0), (.tmp 5, false, 0)], k193⟩
def c202 : FnCode := ⟨19, false, [(.tmp 2, false, 0)], k202⟩
def c203 : FnCode := ⟨25, false, [(.tmp 2, false, 0)], k203⟩
def c204 : FnCode := ⟨15, false, [(.tmp 6, false, 0)], k204⟩
def c205 : FnCode := ⟨43, true, [(.tmp 5, false, 0)], k205⟩
def c206 : FnCode := ⟨11, false, [(.tmp 2, false, 0)], k206⟩
def c207 : FnCode := ⟨19, false, [(.tmp 4, false, 0)], k207⟩
def c208 : FnCode := ⟨14, true, [], k208⟩
def c209 : FnCode := ⟨10, false, [(.tmp 4, false, 0)], k209⟩
def c210 : FnCode := ⟨14, true, [], k210⟩
def c211 : FnCode := ⟨10, false, [(.tmp 4, false, 0)], k211⟩
def c212 : FnCode := ⟨4, false, [(.tmp 2, false, 0)], k212⟩
def c214 : FnCode := ⟨7, false, [(.tmp 2, false, 0)], k214⟩
def c215 : FnCode := ⟨33, true, [(.tmp 2, false, 0)], k215⟩
def c218 : FnCode := ⟨148, true, [], k218⟩
def c219 : FnCode := ⟨148, true, [], k219⟩
def c220 : FnCode := ⟨16, false, [], k220⟩
def c222 : FnCode := ⟨53, true, [], k222⟩
def c223 : FnCode := ⟨60, true, [], k223⟩
def c224 : FnCode := ⟨67, true, [], k224⟩
def c225 : FnCode := ⟨63, true, [(.tmp 8, false, 0), (.tmp 9, false, 0)], k225⟩
def c226 : FnCode := ⟨34, true, [], k226⟩
def c227 : FnCode := ⟨141, true, [(.tmp 8, false, 0)], k227⟩
def c228 : FnCode := ⟨90, true, [(.tmp 10, false, 0)], k228⟩
def c229 : FnCode := ⟨178, true, [(.tmp 10, false, 0), (.tmp 11, false, 0)], k229⟩
def c230 : FnCode := ⟨53, true, [], k230⟩
def c231 : FnCode := ⟨60, true, [], k231⟩
def c232 : FnCode := ⟨67, true, [], k232⟩
def c233 : FnCode := ⟨63, true, [(.tmp 8, false, 0), (.tmp 9, false, 0)], k233⟩
def c234 : FnCode := ⟨34, true, [], k234⟩
def c235 : FnCode := ⟨141, true, [(.tmp 8, false, 0)], k235⟩
def c236 : FnCode := ⟨90, true, [(.tmp 10, false, 0)], k236⟩
def c237 : FnCode := ⟨178, true, [(.tmp 10, false, 0), (.tmp 11, false, 0)], k237⟩
def c238 : FnCode := ⟨82, true, [], k238⟩
def c239 : FnCode := ⟨18, true, [(.tmp 8, false, 0)], k239⟩
def c240 : FnCode := ⟨41, true, [(.tmp 12, false, 0)], k240⟩
def c241 : FnCode := ⟨82, true, [], k241⟩
def c242 : FnCode := ⟨18, true, [(.tmp 8, false, 0)], k242⟩
def c243 : FnCode := ⟨41, true, [(.tmp 12, false, 0)], k243⟩
def c244 : FnCode := ⟨32, true, [(.tmp 10, false, 0), (.tmp 11, false, 0)], k244⟩
def c245 : FnCode := ⟨32, true, [(.tmp 10, false, 0), (.tmp 11, false, 0)], k245⟩
def codes : List (Nat × FnCode) := [(6, c6), (7, c7), (8, c8), (24, c24), (25, c25), (26, c26), (27, c27), (28, c28), (29, c29), (30, c30), (31, c31), (32, c32), (33, c33), (34, c34), (35, c35), (36, c36), (37, c37), (38, c38), (39, c39), (40, c40), (41, c41), (45, c45), (52, c52), (60, c60), (62, c62), (68, c68), (71, c71), (79, c79), (81, c81), (82, c82), (83, c83), (84, c84), (85, c85), (86, c86), (87, c87), (88, c88), (89, c89), (90, c90), (91, c91), (92, c92), (93, c93), (94, c94), (95, c95), (96, c96), (97, c97), (98, c98), (99, c99), (100, c100), (101, c101), (102, c102), (109, c109), (110, c110), (111, c111), (112, c112), (117, c117), (123, c123), (126, c126), (127, c127), (128, c128), (129, c129), (130, c130), (131, c131), (132, c132), (133, c133), (134, c134), (135, c135), (136, c136), (137, c137), (138, c138), (139, c139), (140, c140), (141, c141), (150, c150), (151, c151), (152, c152), (153, c153), (154, c154), (155, c155), (156, c156), (157, c157), (158, c158), (159, c159), (160, c160), (161, c161), (162, c162), (163, c163), (164, c164), (165, c165), (166, c166), (167, c167), (168, c168), (169, c169), (170, c170), (171, c171), (172, c172), (174, c174), (175, c175), (176, c176), (177, c177), (178, c178), (179, c179), (180, c180), (181, c181), (182, c182), (183, c183), (184, c184), (185, c185), (186, c186), (187, c187), (188, c188), (189, c189), (190, c190), (191, c191), (192, c192), (193, c193), (202, c202), (203, c203), (204, c204), (205, c205), (206, c206), (207, c207), (208, c208), (209, c209), (210, c210), (211, c211), (212, c212), (214, c214), (215, c215), (218, c218), (219, c219), (220, c220), (222, c222), (223, c223), (224, c224), (225, c225), (226, c226), (227, c227), (228, c228), (229, c229), (230, c230), (231, c231), (232, c232), (233, c233), (234, c234), (235, c235), (236, c236), (237, c237), (238, c238), (239, c239), (240, c240), (241, c241), (242, c242), (243, c243), (244, c244), (245, c245)]
def codeAt (f : Nat) : Option FnCode := (bif Nat.blt f 155 then (bif Nat.blt f 91 then (bif Nat.blt f 40 then (bif Nat.blt f 30 then (bif Nat.blt f 25 then (bif Nat.blt f 8 then (bif Nat.blt f 7 then (bif Nat.beq f 6 then some c6 else none) else (bif Nat.beq f 7 then some c7 else none)) else (bif Nat.blt f 24 then (bif Nat.beq f 8 then some c8 else none) else (bif Nat.beq f 24 then some c24 else none))) else (bif Nat.blt f 27 then (bif Nat.blt f 26 then (bif Nat.beq f 25 then some c25 else none) else (bif Nat.beq f 26 then some c26 else none)) else (bif Nat.blt f 28 then (bif Nat.beq f 27 then some c27 else none) else (bif Nat.blt f 29 then (bif Nat.beq f 28 then some c28 else none) else (bif Nat.beq f 29 then some c29 else none))))) else (bif Nat.blt f 35 then (bif Nat.blt f 32 then (bif Nat.blt f 31 then (bif Nat.beq f 30 then some c30 else none) else (bif Nat.beq f 31 then some c31 else none)) else (bif Nat.blt f 33 then (bif Nat.beq f 32 then some c32 else none) else (bif Nat.blt f 34 then (bif Nat.beq f 33 then some c33 else none) else (bif Nat.beq f 34 then some c34 else none)))) else (bif Nat.blt f 37 then (bif Nat.blt f 36 then (bif Nat.beq f 35 then some c35 else none) else (bif Nat.beq f 36 then some c36 else none)) else (bif Nat.blt f 38 then (bif Nat.beq f 37 then some c37 else none) else (bif Nat.blt f 39 then (bif Nat.beq f 38 then some c38 else none) else (bif Nat.beq f 39 then some c39 else none)))))) else (bif Nat.blt f 81 then (bif Nat.blt f 60 then (bif Nat.blt f 45 then (bif Nat.blt f 41 then (bif Nat.beq f 40 then some c40 else none) else (bif Nat.beq f 41 then some c41 else none)) else (bif Nat.blt f 52 then (bif Nat.beq f 45 then some c45 else none) else (bif Nat.beq f 52 then some c52 else none))) else (bif Nat.blt f 68 then (bif Nat.blt f 62 then (bif Nat.beq f 60 then some c60 else none) else (bif Nat.beq f 62 then some c62 else none)) else (bif Nat.blt f 71 then (bif Nat.beq f 68 then some c68 else none) else (bif Nat.blt f 79 then (bif Nat.beq f 71 then some c71 else none) else (bif Nat.beq f 79 then some c79 else none))))) else (bif Nat.blt f 86 then (bif Nat.blt f 83 then (bif Nat.blt f 82 then (bif Nat.beq f 81 then some c81 else none) else (bif Nat.beq f 82 then some c82 else none)) else (bif Nat.blt f 84 then (bif Nat.beq f 83 then some c83 else none) else (bif Nat.blt f 85 then (bif Nat.beq f 84 then some c84 else none) else (bif Nat.beq f 85 then some c85 else none)))) else (bif Nat.blt f 88 then (bif Nat.blt f 87 then (bif Nat.beq f 86 then some c86 else none) else (bif Nat.beq f 87 then some c87 else none)) else (bif Nat.blt f 89 then (bif Nat.beq f 88 then some c88 else none) else (bif Nat.blt f 90 then (bif Nat.beq f 89 then some c89 else none) else (bif Nat.beq f 90 then some c90 else none))))))) else (bif Nat.blt f 127 then (bif Nat.blt f 100 then (bif Nat.blt f 95 then (bif Nat.blt f 93 then (bif Nat.blt f 92 then (bif Nat.beq f 91 then some c91 else none) else (bif Nat.beq f 92 then some c92 else none)) else (bif Nat.blt f 94 then (bif Nat.beq f 93 then some c93 else none) else (bif Nat.beq f 94 then some c94 else none))) else (bif Nat.blt f 97 then (bif Nat.blt f 96 then (bif Nat.beq f 95 then some c95 else none) else (bif Nat.beq f 96 then some c96 else none)) else (bif Nat.blt f 98 then (bif Nat.beq f 97 then some c97 else none) else (bif Nat.blt f 99 then (bif Nat.beq f 98 then some c98 else none) else (bif Nat.beq f 99 then some c99 else none))))) else (bif Nat.blt f 111 then (bif Nat.blt f 102 then (bif Nat.blt f 101 then (bif Nat.beq f 100 then some c100 else none) else (bif Nat.beq f 101 then some c101 else none)) else (bif Nat.blt f 109 then (bif Nat.beq f 102 then some c102 else none) else (bif Nat.blt f 110 then (bif Nat.beq f 109 then some c109 else none) else (bif Nat.beq f 110 then some c110 else none)))) else (bif Nat.blt f 117 then (bif Nat.blt f 112 then (bif Nat.beq f 111 then some c111 else none) else (bif Nat.beq f 112 then some c112 else none)) else (bif Nat.blt f 123 then (bif Nat.beq f 117 then some c117 else none) else (bif Nat.blt f 126 then (bif Nat.beq f 123 then some c123 else none) else (bif Nat.beq f 126 then some c126 else none)))))) else (bif Nat.blt f 137 then (bif Nat.blt f 132 then (bif Nat.blt f 129 then (bif Nat.blt f 128 then (bif Nat.beq f 127 then some c127 else none) else (bif Nat.beq f 128 then some c128 else none)) else (bif Nat.blt f 130 then (bif Nat.beq f 129 then some c129 else none) else (bif Nat.blt f 131 then (bif Nat.beq f 130 then some c130 else none) else (bif Nat.beq f 131 then some c131 else none)))) else (bif Nat.blt f 134 then (bif Nat.blt f 133 then (bif Nat.beq f 132 then some c132 else none) else (bif Nat.beq f 133 then some c133 else none)) else (bif Nat.blt f 135 then (bif Nat.beq f 134 then some c134 else none) else (bif Nat.blt f 136 then (bif Nat.beq f 135 then some c135 else none) else (bif Nat.beq f 136 then some c136 else none))))) else (bif Nat.blt f 150 then (bif Nat.blt f 139 then (bif Nat.blt f 138 then (bif Nat.beq f 137 then some c137 else none) else (bif Nat.beq f 138 then some c138 else none)) else (bif Nat.blt f 140 then (bif Nat.beq f 139 then some c139 else none) else (bif Nat.blt f 141 then (bif Nat.beq f 140 then some c140 else none) else (bif Nat.beq f 141 then some c141 else none)))) else (bif Nat.blt f 152 then (bif Nat.blt f 151 then (bif Nat.beq f 150 then some c150 else none) else (bif Nat.beq f 151 then some c151 else none)) else (bif Nat.blt f 153 then (bif Nat.beq f 152 then some c152 else none) else (bif Nat.blt f 154 then (bif Nat.beq f 153 then some c153 else none) else (bif Nat.beq f 154 then some c154 else none)))))))) else (bif Nat.blt f 203 then (bif Nat.blt f 175 then (bif Nat.blt f 164 then (bif Nat.blt f 159 then (bif Nat.blt f 157 then (bif Nat.blt f 156 then (bif Nat.beq f 155 then some c155 else none) else (bif Nat.beq f 156 then some c156 else none)) else (bif Nat.blt f 158 then (bif Nat.beq f 157 then some c157 else none) else (bif Nat.beq f 158 then some c158 else none))) else (bif Nat.blt f 161 then (bif Nat.blt f 160 then (bif Nat.beq f 159 then some c159 else none) else (bif Nat.beq f 160 then some c160 else none)) else (bif Nat.blt f 162 then (bif Nat.beq f 161 then some c161 else none) else (bif Nat.blt f 163 then (bif Nat.beq f 162 then some c162 else none) else (bif Nat.beq f 163 then some c163 else none))))) else (bif Nat.blt f 169 then (bif Nat.blt f 166 then (bif Nat.blt f 165 then (bif Nat.beq f 164 then some c164 else none) else (bif Nat.beq f 165 then some c165 else none)) else (bif Nat.blt f 167 then (bif Nat.beq f 166 then some c166 else none) else (bif Nat.blt f 168 then (bif Nat.beq f 167 then some c167 else none) else (bif Nat.beq f 168 then some c168 else none)))) else (bif Nat.blt f 171 then (bif Nat.blt f 170 then (bif Nat.beq f 169 then some c169 else none) else (bif Nat.beq f 170 then some c170 else none)) else (bif Nat.blt f 172 then (bif Nat.beq f 171 then some c171 else none) else (bif Nat.blt f 174 then (bif Nat.beq f 172 then some c172 else none) else (bif Nat.beq f 174 then some c174 else none)))))) else (bif Nat.blt f 185 then (bif Nat.blt f 180 then (bif Nat.blt f 177 then (bif Nat.blt f 176 then (bif Nat.beq f 175 then some c175 else none) else (bif Nat.beq f 176 then some c176 else none)) else (bif Nat.blt f 178 then (bif Nat.beq f 177 then some c177 else none) else (bif Nat.blt f 179 then (bif Nat.beq f 178 then some c178 else none) else (bif Nat.beq f 179 then some c179 else none)))) else (bif Nat.blt f 182 then (bif Nat.blt f 181 then (bif Nat.beq f 180 then some c180 else none) else (bif Nat.beq f 181 then some c181 else none)) else (bif Nat.blt f 183 then (bif Nat.beq f 182 then some c182 else none) else (bif Nat.blt f 184 then (bif Nat.beq f 183 then some c183 else none) else (bif Nat.beq f 184 then some c184 else none))))) else (bif Nat.blt f 190 then (bif Nat.blt f 187 then (bif Nat.blt f 186 then (bif Nat.beq f 185 then some c185 else none) else (bif Nat.beq f 186 then some c186 else none)) else (bif Nat.blt f 188 then (bif Nat.beq f 187 then some c187 else none) else (bif Nat.blt f 189 then (bif Nat.beq f 188 then some c188 else none) else (bif Nat.beq f 189 then some c189 else none)))) else (bif Nat.blt f 192 then (bif Nat.blt f 191 then (bif Nat.beq f 190 then some c190 else none) else (bif Nat.beq f 191 then some c191 else none)) else (bif Nat.blt f 193 then (bif Nat.beq f 192 then some c192 else none) else (bif Nat.blt f 202 then (bif Nat.beq f 193 then some c193 else none) else (bif Nat.beq f 202 then some c202 else none))))))) else (bif Nat.blt f 226 then (bif Nat.blt f 212 then (bif Nat.blt f 207 then (bif Nat.blt f 205 then (bif Nat.blt f 204 then (bif Nat.beq f 203 then some c203 else none) else (bif Nat.beq f 204 then some c204 else none)) else (bif Nat.blt f 206 then (bif Nat.beq f 205 then some c205 else none) else (bif Nat.beq f 206 then some c206 else none))) else (bif Nat.blt f 209 then (bif Nat.blt f 208 then (bif Nat.beq f 207 then some c207 else none) else (bif Nat.beq f 208 then some c208 else none)) else (bif Nat.blt f 210 then (bif Nat.beq f 209 then some c209 else none) else (bif Nat.blt f 211 then (bif Nat.beq f 210 then some c210 else none) else (bif Nat.beq f 211 then some c211 else none))))) else (bif Nat.blt f 220 then (bif Nat.blt f 215 then (bif Nat.blt f 214 then (bif Nat.beq f 212 then some c212 else none) else (bif Nat.beq f 214 then some c214 else none)) else (bif Nat.blt f 218 then (bif Nat.beq f 215 then some c215 else none) else (bif Nat.blt f 219 then (bif Nat.beq f 218 then some c218 else none) else (bif Nat.beq f 219 then some c219 else none)))) else (bif Nat.blt f 223 then (bif Nat.blt f 222 then (bif Nat.beq f 220 then some c220 else none) else (bif Nat.beq f 222 then some c222 else none)) else (bif Nat.blt f 224 then (bif Nat.beq f 223 then some c223 else none) else (bif Nat.blt f 225 then (bif Nat.beq f 224 then some c224 else none) else (bif Nat.beq f 225 then some c225 else none)))))) else (bif Nat.blt f 236 then (bif Nat.blt f 231 then (bif Nat.blt f 228 then (bif Nat.blt f 227 then (bif Nat.beq f 226 then some c226 else none) else (bif Nat.beq f 227 then some c227 else none)) else (bif Nat.blt f 229 then (bif Nat.beq f 228 then some c228 else none) else (bif Nat.blt f 230 then (bif Nat.beq f 229 then some c229 else none) else (bif Nat.beq f 230 then some c230 else none)))) else (bif Nat.blt f 233 then (bif Nat.blt f 232 then (bif Nat.beq f 231 then some c231 else none) else (bif Nat.beq f 232 then some c232 else none)) else (bif Nat.blt f 234 then (bif Nat.beq f 233 then some c233 else none) else (bif Nat.blt f 235 then (bif Nat.beq f 234 then some c234 else none) else (bif Nat.beq f 235 then some c235 else none))))) else (bif Nat.blt f 241 then (bif Nat.blt f 238 then (bif Nat.blt f 237 then (bif Nat.beq f 236 then some c236 else none) else (bif Nat.beq f 237 then some c237 else none)) else (bif Nat.blt f 239 then (bif Nat.beq f 238 then some c238 else none) else (bif Nat.blt f 240 then (bif Nat.beq f 239 then some c239 else none) else (bif Nat.beq f 240 then some c240 else none)))) else (bif Nat.blt f 243 then (bif Nat.blt f 242 then (bif Nat.beq f 241 then some c241 else none) else (bif Nat.beq f 242 then some c242 else none)) else (bif Nat.blt f 244 then (bif Nat.beq f 243 then some c243 else none) else (bif Nat.blt f 245 then (bif Nat.beq f 244 then some c244 else none) else (bif Nat.beq f 245 then some c245 else none)))))))))
theorem kc6 : codeOf Tryz.prog 6 = some (94, [(.tmp 6, false, 0)], k6) := by kernel_rfl
theorem kc7 : codeOf Tryz.prog 7 = some (91, [(.tmp 4, false, 0)], k7) := by kernel_rfl
theorem kc8 : codeOf Tryz.prog 8 = some (13, [(.tmp 2, false, 0), (.tmp 3, false, 0)], k8) := by kernel_rfl
theorem kc24 : codeOf Tryz.prog 24 = some (34, [(.cell 4 48, true, 2), (.tmp 5, false, 0)], k24) := by kernel_rfl
theorem kc25 : codeOf Tryz.prog 25 = some (39, [(.cell 4 48, true, 2), (.tmp 5, false, 0)], k25) := by kernel_rfl
theorem kc26 : codeOf Tryz.prog 26 = some (51, [(.cell 8 48, true, 2), (.cell 9 48, true, 2), (.tmp 10, false, 0)], k26) := by kernel_rfl
theorem kc27 : codeOf Tryz.prog 27 = some (55, [(.cell 8 48, true, 2), (.cell 9 48, true, 2), (.tmp 10, false, 0)], k27) := by kernel_rfl
theorem kc28 : codeOf Tryz.prog 28 = some (24, [(.tmp 4, false, 0)], k28) := by kernel_rfl
theorem kc29 : codeOf Tryz.prog 29 = some (31, [(.tmp 4, false, 0)], k29) := by kernel_rfl
theorem kc30 : codeOf Tryz.prog 30 = some (112, [(.tmp 0, false, 0)], k30) := by kernel_rfl
theorem kc31 : codeOf Tryz.prog 31 = some (27, [(.cell 2 48, true, 2), (.tmp 3, false, 0)], k31) := by kernel_rfl
theorem kc32 : codeOf Tryz.prog 32 = some (12, [(.cell 2 48, true, 2), (.tmp 3, false, 0)], k32) := by kernel_rfl
theorem kc33 : codeOf Tryz.prog 33 = some (42, [(.tmp 4, false, 0), (.tmp 5, false, 0)], k33) := by kernel_rfl
theorem kc34 : codeOf Tryz.prog 34 = some (35, [(.tmp 4, false, 0), (.tmp 5, false, 0)], k34) := by kernel_rfl
theorem kc35 : codeOf Tryz.prog 35 = some (26, [(.tmp 4, false, 0), (.cell 5 48, true, 2), (.tmp 6, false, 0)], k35) := by kernel_rfl
theorem kc36 : codeOf Tryz.prog 36 = some (43, [(.tmp 4, false, 0), (.cell 5 48, true, 2), (.tmp 6, false, 0)], k36) := by kernel_rfl
theorem kc37 : codeOf Tryz.prog 37 = some (26, [(.tmp 4, false, 0)], k37) := by kernel_rfl
theorem kc38 : codeOf Tryz.prog 38 = some (25, [(.tmp 2, false, 0)], k38) := by kernel_rfl
theorem kc39 : codeOf Tryz.prog 39 = some (81, [(.cell 4 65, true, 2)], k39) := by kernel_rfl
theorem kc40 : codeOf Tryz.prog 40 = some (3, [(.tmp 2, false, 0)], k40) := by kernel_rfl
theorem kc41 : codeOf Tryz.prog 41 = some (57, [(.tmp 2, false, 0)], k41) := by kernel_rfl
theorem kc45 : codeOf Tryz.prog 45 = some (45, [(.tmp 6, false, 0), (.tmp 7, false, 0), (.tmp 8, false, 0)], k45) := by kernel_rfl
theorem kc52 : codeOf Tryz.prog 52 = some (41, [(.cell 2 90, true, 2), (.tmp 3, false, 0)], k52) := by kernel_rfl
theorem kc60 : codeOf Tryz.prog 60 = some (49, [(.cell 6 106, true, 4), (.tmp 7, false, 0)], k60) := by kernel_rfl
theorem kc62 : codeOf Tryz.prog 62 = some (15, [(.tmp 6, false, 0)], k62) := by kernel_rfl
theorem kc68 : codeOf Tryz.prog 68 = some (9, [(.tmp 4, false, 0)], k68) := by kernel_rfl
theorem kc71 : codeOf Tryz.prog 71 = some (9, [(.tmp 4, false, 0)], k71) := by kernel_rfl
theorem kc79 : codeOf Tryz.prog 79 = some (8, [(.tmp 2, false, 0)], k79) := by kernel_rfl
theorem kc81 : codeOf Tryz.prog 81 = some (15, [(.tmp 6, false, 0)], k81) := by kernel_rfl
theorem kc82 : codeOf Tryz.prog 82 = some (15, [(.tmp 4, false, 0)], k82) := by kernel_rfl
theorem kc83 : codeOf Tryz.prog 83 = some (15, [(.tmp 6, false, 0)], k83) := by kernel_rfl
theorem kc84 : codeOf Tryz.prog 84 = some (14, [(.tmp 4, false, 0)], k84) := by kernel_rfl
theorem kc85 : codeOf Tryz.prog 85 = some (11, [(.tmp 2, false, 0)], k85) := by kernel_rfl
theorem kc86 : codeOf Tryz.prog 86 = some (20, [(.tmp 4, false, 0)], k86) := by kernel_rfl
theorem kc87 : codeOf Tryz.prog 87 = some (11, [(.tmp 2, false, 0)], k87) := by kernel_rfl
theorem kc88 : codeOf Tryz.prog 88 = some (24, [(.tmp 6, false, 0), (.tmp 7, false, 0)], k88) := by kernel_rfl
theorem kc89 : codeOf Tryz.prog 89 = some (37, [(.cell 6 135, true, 3), (.tmp 7, false, 0)], k89) := by kernel_rfl
theorem kc90 : codeOf Tryz.prog 90 = some (72, [(.cell 8 3, false, 1), (.cell 9 3, false, 1), (.tmp 10, false, 0)], k90) := by kernel_rfl
theorem kc91 : codeOf Tryz.prog 91 = some (57, [(.tmp 6, false, 0)], k91) := by kernel_rfl
theorem kc92 : codeOf Tryz.prog 92 = some (26, [(.tmp 4, false, 0)], k92) := by kernel_rfl
theorem kc93 : codeOf Tryz.prog 93 = some (11, [(.tmp 2, false, 0)], k93) := by kernel_rfl
theorem kc94 : codeOf Tryz.prog 94 = some (19, [(.tmp 2, false, 0)], k94) := by kernel_rfl
theorem kc95 : codeOf Tryz.prog 95 = some (27, [(.cell 2 48, true, 2)], k95) := by kernel_rfl
theorem kc96 : codeOf Tryz.prog 96 = some (33, [(.cell 4 48, true, 2)], k96) := by kernel_rfl
theorem kc97 : codeOf Tryz.prog 97 = some (19, [(.tmp 4, false, 0)], k97) := by kernel_rfl
theorem kc98 : codeOf Tryz.prog 98 = some (42, [(.tmp 2, false, 0)], k98) := by kernel_rfl
theorem kc99 : codeOf Tryz.prog 99 = some (7, [(.tmp 2, false, 0)], k99) := by kernel_rfl
theorem kc100 : codeOf Tryz.prog 100 = some (16, [(.tmp 4, false, 0)], k100) := by kernel_rfl
theorem kc101 : codeOf Tryz.prog 101 = some (63, [(.tmp 2, false, 0), (.tmp 3, false, 0)], k101) := by kernel_rfl
theorem kc102 : codeOf Tryz.prog 102 = some (28, [], k102) := by kernel_rfl
theorem kc109 : codeOf Tryz.prog 109 = some (12, [(.tmp 2, false, 0)], k109) := by kernel_rfl
theorem kc110 : codeOf Tryz.prog 110 = some (31, [(.cell 2 90, true, 2)], k110) := by kernel_rfl
theorem kc111 : codeOf Tryz.prog 111 = some (27, [], k111) := by kernel_rfl
theorem kc112 : codeOf Tryz.prog 112 = some (58, [], k112) := by kernel_rfl
theorem kc117 : codeOf Tryz.prog 117 = some (19, [(.tmp 4, false, 0)], k117) := by kernel_rfl
theorem kc123 : codeOf Tryz.prog 123 = some (19, [(.tmp 4, false, 0)], k123) := by kernel_rfl
theorem kc126 : codeOf Tryz.prog 126 = some (6, [(.tmp 2, false, 0)], k126) := by kernel_rfl
theorem kc127 : codeOf Tryz.prog 127 = some (21, [(.tmp 6, false, 0), (.tmp 7, false, 0)], k127) := by kernel_rfl
theorem kc128 : codeOf Tryz.prog 128 = some (37, [(.tmp 6, false, 0), (.tmp 7, false, 0)], k128) := by kernel_rfl
theorem kc129 : codeOf Tryz.prog 129 = some (9, [(.tmp 4, false, 0)], k129) := by kernel_rfl
theorem kc130 : codeOf Tryz.prog 130 = some (38, [(.tmp 4, false, 0)], k130) := by kernel_rfl
theorem kc131 : codeOf Tryz.prog 131 = some (47, [(.cell 6 175, true, 5), (.tmp 7, false, 0)], k131) := by kernel_rfl
theorem kc132 : codeOf Tryz.prog 132 = some (92, [(.tmp 6, false, 0)], k132) := by kernel_rfl
theorem kc133 : codeOf Tryz.prog 133 = some (111, [(.cell 4 183, true, 6)], k133) := by kernel_rfl
theorem kc134 : codeOf Tryz.prog 134 = some (6, [(.tmp 4, false, 0)], k134) := by kernel_rfl
theorem kc135 : codeOf Tryz.prog 135 = some (18, [(.tmp 2, false, 0)], k135) := by kernel_rfl
theorem kc136 : codeOf Tryz.prog 136 = some (5, [(.tmp 2, false, 0)], k136) := by kernel_rfl
theorem kc137 : codeOf Tryz.prog 137 = some (6, [(.tmp 2, false, 0)], k137) := by kernel_rfl
theorem kc138 : codeOf Tryz.prog 138 = some (21, [], k138) := by kernel_rfl
theorem kc139 : codeOf Tryz.prog 139 = some (30, [(.tmp 2, false, 0)], k139) := by kernel_rfl
theorem kc140 : codeOf Tryz.prog 140 = some (54, [(.tmp 4, false, 0), (.tmp 5, false, 0)], k140) := by kernel_rfl
theorem kc141 : codeOf Tryz.prog 141 = some (48, [(.tmp 4, false, 0)], k141) := by kernel_rfl
theorem kc150 : codeOf Tryz.prog 150 = some (6, [(.tmp 2, false, 0)], k150) := by kernel_rfl
theorem kc151 : codeOf Tryz.prog 151 = some (25, [(.tmp 6, false, 0), (.tmp 7, false, 0)], k151) := by kernel_rfl
theorem kc152 : codeOf Tryz.prog 152 = some (9, [(.tmp 4, false, 0)], k152) := by kernel_rfl
theorem kc153 : codeOf Tryz.prog 153 = some (30, [(.tmp 2, false, 0)], k153) := by kernel_rfl
theorem kc154 : codeOf Tryz.prog 154 = some (10, [(.tmp 3, false, 0)], k154) := by kernel_rfl
theorem kc155 : codeOf Tryz.prog 155 = some (66, [(.tmp 2, false, 0)], k155) := by kernel_rfl
theorem kc156 : codeOf Tryz.prog 156 = some (30, [(.tmp 2, false, 0)], k156) := by kernel_rfl
theorem kc157 : codeOf Tryz.prog 157 = some (8, [(.tmp 3, false, 0)], k157) := by kernel_rfl
theorem kc158 : codeOf Tryz.prog 158 = some (9, [(.tmp 4, false, 0)], k158) := by kernel_rfl
theorem kc159 : codeOf Tryz.prog 159 = some (8, [(.tmp 3, false, 0)], k159) := by kernel_rfl
theorem kc160 : codeOf Tryz.prog 160 = some (15, [(.tmp 2, false, 0), (.tmp 3, false, 0)], k160) := by kernel_rfl
theorem kc161 : codeOf Tryz.prog 161 = some (8, [(.tmp 4, false, 0)], k161) := by kernel_rfl
theorem kc162 : codeOf Tryz.prog 162 = some (42, [(.tmp 4, false, 0), (.tmp 5, false, 0)], k162) := by kernel_rfl
theorem kc163 : codeOf Tryz.prog 163 = some (24, [(.cell 2 88, true, 2), (.tmp 3, false, 0)], k163) := by kernel_rfl
theorem kc164 : codeOf Tryz.prog 164 = some (13, [], k164) := by kernel_rfl
theorem kc165 : codeOf Tryz.prog 165 = some (42, [(.tmp 8, false, 0)], k165) := by kernel_rfl
theorem kc166 : codeOf Tryz.prog 166 = some (46, [(.tmp 6, false, 0)], k166) := by kernel_rfl
theorem kc167 : codeOf Tryz.prog 167 = some (6, [(.tmp 4, false, 0)], k167) := by kernel_rfl
theorem kc168 : codeOf Tryz.prog 168 = some (18, [], k168) := by kernel_rfl
theorem kc169 : codeOf Tryz.prog 169 = some (14, [(.tmp 2, false, 0)], k169) := by kernel_rfl
theorem kc170 : codeOf Tryz.prog 170 = some (17, [(.tmp 4, false, 0)], k170) := by kernel_rfl
theorem kc171 : codeOf Tryz.prog 171 = some (6, [(.tmp 2, false, 0)], k171) := by kernel_rfl
theorem kc172 : codeOf Tryz.prog 172 = some (30, [(.tmp 4, false, 0), (.tmp 5, false, 0)], k172) := by kernel_rfl
theorem kc174 : codeOf Tryz.prog 174 = some (8, [(.tmp 2, false, 0)], k174) := by kernel_rfl
theorem kc175 : codeOf Tryz.prog 175 = some (30, [(.tmp 2, false, 0)], k175) := by kernel_rfl
theorem kc176 : codeOf Tryz.prog 176 = some (26, [(.tmp 6, false, 0)], k176) := by kernel_rfl
theorem kc177 : codeOf Tryz.prog 177 = some (8, [], k177) := by kernel_rfl
theorem kc178 : codeOf Tryz.prog 178 = some (25, [(.tmp 7, false, 0)], k178) := by kernel_rfl
theorem kc179 : codeOf Tryz.prog 179 = some (28, [(.cell 6 141, true, 2)], k179) := by kernel_rfl
theorem kc180 : codeOf Tryz.prog 180 = some (49, [(.tmp 2, false, 0)], k180) := by kernel_rfl
theorem kc181 : codeOf Tryz.prog 181 = some (19, [(.tmp 4, false, 0)], k181) := by kernel_rfl
theorem kc182 : codeOf Tryz.prog 182 = some (43, [(.tmp 2, false, 0)], k182) := by kernel_rfl
theorem kc183 : codeOf Tryz.prog 183 = some (19, [(.tmp 2, false, 0)], k183) := by kernel_rfl
theorem kc184 : codeOf Tryz.prog 184 = some (19, [(.tmp 4, false, 0)], k184) := by kernel_rfl
theorem kc185 : codeOf Tryz.prog 185 = some (10, [(.tmp 5, false, 0)], k185) := by kernel_rfl
theorem kc186 : codeOf Tryz.prog 186 = some (10, [(.tmp 4, false, 0)], k186) := by kernel_rfl
theorem kc187 : codeOf Tryz.prog 187 = some (15, [(.tmp 6, false, 0)], k187) := by kernel_rfl
theorem kc188 : codeOf Tryz.prog 188 = some (31, [(.tmp 4, false, 0)], k188) := by kernel_rfl
theorem kc189 : codeOf Tryz.prog 189 = some (54, [(.tmp 6, false, 0)], k189) := by kernel_rfl
theorem kc190 : codeOf Tryz.prog 190 = some (50, [(.tmp 4, false, 0)], k190) := by kernel_rfl
theorem kc191 : codeOf Tryz.prog 191 = some (33, [(.tmp 4, false, 0)], k191) := by kernel_rfl
theorem kc192 : codeOf Tryz.prog 192 = some (17, [(.tmp 4, false, 0), (.tmp 5, false, 0)], k192) := by kernel_rfl
theorem kc193 : codeOf Tryz.prog 193 = some (51, [(.tmp 4, false, 0), (.tmp 5, false, 0)], k193) := by kernel_rfl
theorem kc202 : codeOf Tryz.prog 202 = some (19, [(.tmp 2, false, 0)], k202) := by kernel_rfl
theorem kc203 : codeOf Tryz.prog 203 = some (25, [(.tmp 2, false, 0)], k203) := by kernel_rfl
theorem kc204 : codeOf Tryz.prog 204 = some (15, [(.tmp 6, false, 0)], k204) := by kernel_rfl
theorem kc205 : codeOf Tryz.prog 205 = some (43, [(.tmp 5, false, 0)], k205) := by kernel_rfl
theorem kc206 : codeOf Tryz.prog 206 = some (11, [(.tmp 2, false, 0)], k206) := by kernel_rfl
theorem kc207 : codeOf Tryz.prog 207 = some (19, [(.tmp 4, false, 0)], k207) := by kernel_rfl
theorem kc208 : codeOf Tryz.prog 208 = some (14, [], k208) := by kernel_rfl
theorem kc209 : codeOf Tryz.prog 209 = some (10, [(.tmp 4, false, 0)], k209) := by kernel_rfl
theorem kc210 : codeOf Tryz.prog 210 = some (14, [], k210) := by kernel_rfl
theorem kc211 : codeOf Tryz.prog 211 = some (10, [(.tmp 4, false, 0)], k211) := by kernel_rfl
theorem kc212 : codeOf Tryz.prog 212 = some (4, [(.tmp 2, false, 0)], k212) := by kernel_rfl
theorem kc214 : codeOf Tryz.prog 214 = some (7, [(.tmp 2, false, 0)], k214) := by kernel_rfl
theorem kc215 : codeOf Tryz.prog 215 = some (33, [(.tmp 2, false, 0)], k215) := by kernel_rfl
theorem kc218 : codeOf Tryz.prog 218 = some (148, [], k218) := by kernel_rfl
theorem kc219 : codeOf Tryz.prog 219 = some (148, [], k219) := by kernel_rfl
theorem kc220 : codeOf Tryz.prog 220 = some (16, [], k220) := by kernel_rfl
theorem kc222 : codeOf Tryz.prog 222 = some (53, [], k222) := by kernel_rfl
theorem kc223 : codeOf Tryz.prog 223 = some (60, [], k223) := by kernel_rfl
theorem kc224 : codeOf Tryz.prog 224 = some (67, [], k224) := by kernel_rfl
theorem kc225 : codeOf Tryz.prog 225 = some (63, [(.tmp 8, false, 0), (.tmp 9, false, 0)], k225) := by kernel_rfl
theorem kc226 : codeOf Tryz.prog 226 = some (34, [], k226) := by kernel_rfl
theorem kc227 : codeOf Tryz.prog 227 = some (141, [(.tmp 8, false, 0)], k227) := by kernel_rfl
theorem kc228 : codeOf Tryz.prog 228 = some (90, [(.tmp 10, false, 0)], k228) := by kernel_rfl
theorem kc229 : codeOf Tryz.prog 229 = some (178, [(.tmp 10, false, 0), (.tmp 11, false, 0)], k229) := by kernel_rfl
theorem kc230 : codeOf Tryz.prog 230 = some (53, [], k230) := by kernel_rfl
theorem kc231 : codeOf Tryz.prog 231 = some (60, [], k231) := by kernel_rfl
theorem kc232 : codeOf Tryz.prog 232 = some (67, [], k232) := by kernel_rfl
theorem kc233 : codeOf Tryz.prog 233 = some (63, [(.tmp 8, false, 0), (.tmp 9, false, 0)], k233) := by kernel_rfl
theorem kc234 : codeOf Tryz.prog 234 = some (34, [], k234) := by kernel_rfl
theorem kc235 : codeOf Tryz.prog 235 = some (141, [(.tmp 8, false, 0)], k235) := by kernel_rfl
theorem kc236 : codeOf Tryz.prog 236 = some (90, [(.tmp 10, false, 0)], k236) := by kernel_rfl
theorem kc237 : codeOf Tryz.prog 237 = some (178, [(.tmp 10, false, 0), (.tmp 11, false, 0)], k237) := by kernel_rfl
theorem kc238 : codeOf Tryz.prog 238 = some (82, [], k238) := by kernel_rfl
theorem kc239 : codeOf Tryz.prog 239 = some (18, [(.tmp 8, false, 0)], k239) := by kernel_rfl
theorem kc240 : codeOf Tryz.prog 240 = some (41, [(.tmp 12, false, 0)], k240) := by kernel_rfl
theorem kc241 : codeOf Tryz.prog 241 = some (82, [], k241) := by kernel_rfl
theorem kc242 : codeOf Tryz.prog 242 = some (18, [(.tmp 8, false, 0)], k242) := by kernel_rfl
theorem kc243 : codeOf Tryz.prog 243 = some (41, [(.tmp 12, false, 0)], k243) := by kernel_rfl
theorem kc244 : codeOf Tryz.prog 244 = some (32, [(.tmp 10, false, 0), (.tmp 11, false, 0)], k244) := by kernel_rfl
theorem kc245 : codeOf Tryz.prog 245 = some (32, [(.tmp 10, false, 0), (.tmp 11, false, 0)], k245) := by kernel_rfl
end Go.Proofs.YtgbkdjlekfjkfaaGreatDoor
