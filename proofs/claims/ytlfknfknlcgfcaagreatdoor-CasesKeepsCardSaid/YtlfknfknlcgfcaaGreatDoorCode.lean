/- The small code of the functions of this program, as its own reader reads them: it is the program. -/
import Derived.Test.YtlfknfknlcgfcaaGreatDoorProg
import Derived.Test.YtlfknfknlcgfcaaGreatDoorCodeB
namespace Go.Proofs.YtlfknfknlcgfcaaGreatDoor
open Go Go.Em
set_option maxRecDepth 100000
def c9 : FnCode := ⟨32, false, [(.tmp 4, false, 0)], k9⟩
def c15 : FnCode := ⟨42, false, [(.tmp 4, false, 0), (.tmp 5, false, 0)], k15⟩
def c21 : FnCode := ⟨83, false, [(.tmp 0, false, 0)], k21⟩
def c24 : FnCode := ⟨15, false, [(.tmp 2, false, 0), (.tmp 3, false, 0)], k24⟩
def c27 : FnCode := ⟨27, false, [(.tmp 4, false, 0)], k27⟩
def c32 : FnCode := ⟨25, false, [(.tmp 6, false, 0), (.tmp 7, false, 0)], k32⟩
def c38 : FnCode := ⟨26, false, [(.tmp 4, false, 0)], k38⟩
def c39 : FnCode := ⟨51, false, [(.tmp 4, false, 0), (.tmp 5, false, 0), (.tmp 6, false, 0)], k39⟩
def c41 : FnCode := ⟨26, false, [(.tmp 4, false, 0)], k41⟩
def c42 : FnCode := ⟨26, false, [(.tmp 4, false, 0)], k42⟩
def c43 : FnCode := ⟨52, false, [(.tmp 4, false, 0), (.tmp 5, false, 0)], k43⟩
def c44 : FnCode := ⟨34, false, [(.tmp 4, false, 0)], k44⟩
def c45 : FnCode := ⟨36, false, [(.tmp 4, false, 0), (.tmp 5, false, 0)], k45⟩
def c52 : FnCode := ⟨31, false, [(.tmp 2, false, 0)], k52⟩
def c54 : FnCode := ⟨21, false, [(.tmp 4, false, 0), (.tmp 5, false, 0)], k54⟩
def c57 : FnCode := ⟨66, false, [(.tmp 2, false, 0)], k57⟩
def c58 : FnCode := ⟨15, false, [(.tmp 6, false, 0)], k58⟩
def c59 : FnCode := ⟨31, false, [(.tmp 4, false, 0)], k59⟩
def c60 : FnCode := ⟨69, false, [(.tmp 2, false, 0)], k60⟩
def c62 : FnCode := ⟨32, false, [(.tmp 4, false, 0)], k62⟩
def c66 : FnCode := ⟨8, true, [(.tmp 2, false, 0)], k66⟩
def c69 : FnCode := ⟨17, false, [(.cell 0 25, true, 2)], k69⟩
def c72 : FnCode := ⟨11, false, [(.tmp 2, false, 0)], k72⟩
def c75 : FnCode := ⟨8, true, [], k75⟩
def c76 : FnCode := ⟨10, true, [(.tmp 5, false, 0)], k76⟩
def c84 : FnCode := ⟨49, false, [(.tmp 4, false, 0)], k84⟩
def c85 : FnCode := ⟨26, false, [(.tmp 6, false, 0)], k85⟩
def c86 : FnCode := ⟨25, true, [(.tmp 7, false, 0)], k86⟩
def c87 : FnCode := ⟨28, false, [(.cell 6 77, true, 2)], k87⟩
def c88 : FnCode := ⟨49, false, [(.tmp 2, false, 0)], k88⟩
def c93 : FnCode := ⟨30, false, [(.tmp 6, false, 0)], k93⟩
def c94 : FnCode := ⟨36, false, [(.tmp 2, false, 0)], k94⟩
def c95 : FnCode := ⟨26, false, [(.tmp 4, false, 0), (.tmp 5, false, 0)], k95⟩
def c96 : FnCode := ⟨28, false, [(.tmp 4, false, 0)], k96⟩
def c100 : FnCode := ⟨32, false, [(.tmp 6, false, 0)], k100⟩
def c101 : FnCode := ⟨30, false, [(.tmp 2, false, 0)], k101⟩
def c102 : FnCode := ⟨9, false, [(.tmp 4, false, 0)], k102⟩
def c103 : FnCode := ⟨9, false, [(.tmp 4, false, 0)], k103⟩
def c104 : FnCode := ⟨6, false, [(.tmp 2, false, 0)], k104⟩
def c105 : FnCode := ⟨12, false, [(.tmp 2, false, 0)], k105⟩
def c106 : FnCode := ⟨22, false, [(.tmp 2, false, 0)], k106⟩
def c107 : FnCode := ⟨8, false, [(.tmp 3, false, 0)], k107⟩
def c108 : FnCode := ⟨9, false, [(.tmp 4, false, 0)], k108⟩
def c109 : FnCode := ⟨19, false, [(.tmp 3, false, 0)], k109⟩
def c110 : FnCode := ⟨19, false, [(.tmp 4, false, 0)], k110⟩
def c111 : FnCode := ⟨20, false, [(.tmp 4, false, 0)], k111⟩
def c112 : FnCode := ⟨19, false, [(.tmp 2, false, 0)], k112⟩
def c113 : FnCode := ⟨26, false, [(.tmp 2, false, 0)], k113⟩
def c114 : FnCode := ⟨44, false, [(.tmp 2, false, 0)], k114⟩
def c119 : FnCode := ⟨22, false, [(.tmp 4, false, 0)], k119⟩
def c120 : FnCode := ⟨36, true, [(.tmp 2, false, 0), (.tmp 3, false, 0)], k120⟩
def c122 : FnCode := ⟨22, false, [(.tmp 2, false, 0)], k122⟩
def c127 : FnCode := ⟨25, false, [(.tmp 2, false, 0)], k127⟩
def c128 : FnCode := ⟨43, false, [(.tmp 2, false, 0)], k128⟩
def c129 : FnCode := ⟨19, false, [(.tmp 2, false, 0)], k129⟩
def c130 : FnCode := ⟨52, false, [(.tmp 2, false, 0)], k130⟩
def c136 : FnCode := ⟨19, false, [(.tmp 4, false, 0)], k136⟩
def c137 : FnCode := ⟨13, false, [(.tmp 2, false, 0), (.tmp 3, false, 0)], k137⟩
def c138 : FnCode := ⟨21, false, [(.tmp 2, false, 0)], k138⟩
def c141 : FnCode := ⟨43, true, [(.tmp 5, false, 0)], k141⟩
def c145 : FnCode := ⟨9, false, [(.tmp 4, false, 0)], k145⟩
def c146 : FnCode := ⟨45, false, [(.tmp 6, false, 0), (.tmp 7, false, 0), (.tmp 8, false, 0)], k146⟩
def c147 : FnCode := ⟨14, true, [], k147⟩
def c148 : FnCode := ⟨10, false, [(.tmp 4, false, 0)], k148⟩
def c149 : FnCode := ⟨20, false, [(.tmp 4, false, 0)], k149⟩
def c152 : FnCode := ⟨27, true, [(.tmp 4, false, 0)], k152⟩
def c153 : FnCode := ⟨41, false, [(.cell 2 181, true, 2), (.tmp 3, false, 0)], k153⟩
def c154 : FnCode := ⟨81, false, [(.cell 4 186, true, 2)], k154⟩
def c155 : FnCode := ⟨3, false, [(.tmp 2, false, 0)], k155⟩
def c156 : FnCode := ⟨15, true, [(.cell 2 190, true, 4)], k156⟩
def c157 : FnCode := ⟨71, true, [(.tmp 4, false, 0)], k157⟩
def c158 : FnCode := ⟨21, true, [], k158⟩
def c159 : FnCode := ⟨30, false, [(.tmp 2, false, 0)], k159⟩
def c160 : FnCode := ⟨19, false, [(.tmp 4, false, 0)], k160⟩
def c161 : FnCode := ⟨19, false, [(.tmp 4, false, 0)], k161⟩
def c162 : FnCode := ⟨15, false, [(.tmp 6, false, 0)], k162⟩
def c165 : FnCode := ⟨26, true, [(.tmp 2, false, 0)], k165⟩
def c166 : FnCode := ⟨19, true, [(.tmp 2, false, 0)], k166⟩
def c167 : FnCode := ⟨8, false, [(.tmp 2, false, 0)], k167⟩
def c168 : FnCode := ⟨4, true, [(.tmp 2, false, 0)], k168⟩
def c169 : FnCode := ⟨15, true, [(.tmp 4, false, 0)], k169⟩
def c170 : FnCode := ⟨42, true, [(.tmp 4, false, 0)], k170⟩
def c171 : FnCode := ⟨9, false, [(.tmp 3, false, 0)], k171⟩
def c172 : FnCode := ⟨40, false, [(.tmp 2, false, 0)], k172⟩
def c173 : FnCode := ⟨42, false, [(.tmp 2, false, 0)], k173⟩
def c174 : FnCode := ⟨7, false, [(.tmp 2, false, 0)], k174⟩
def c176 : FnCode := ⟨57, false, [(.tmp 2, false, 0)], k176⟩
def c179 : FnCode := ⟨19, false, [(.tmp 4, false, 0)], k179⟩
def c180 : FnCode := ⟨49, false, [(.cell 6 214, true, 4), (.tmp 7, false, 0)], k180⟩
def c181 : FnCode := ⟨148, true, [], k181⟩
def c182 : FnCode := ⟨8, false, [(.tmp 2, false, 0)], k182⟩
def c183 : FnCode := ⟨6, false, [(.tmp 2, false, 0)], k183⟩
def c185 : FnCode := ⟨12, false, [(.tmp 2, false, 0)], k185⟩
def c186 : FnCode := ⟨31, true, [(.cell 2 181, true, 2)], k186⟩
def c187 : FnCode := ⟨27, true, [], k187⟩
def c188 : FnCode := ⟨58, true, [], k188⟩
def c189 : FnCode := ⟨16, false, [(.tmp 4, false, 0)], k189⟩
def c190 : FnCode := ⟨69, false, [(.tmp 4, false, 0), (.tmp 5, false, 0), (.tmp 6, false, 0)], k190⟩
def c191 : FnCode := ⟨15, true, [], k191⟩
def c192 : FnCode := ⟨18, true, [], k192⟩
def c193 : FnCode := ⟨14, false, [(.tmp 2, false, 0)], k193⟩
def c194 : FnCode := ⟨17, false, [(.tmp 6, false, 0)], k194⟩
def c195 : FnCode := ⟨15, false, [(.tmp 6, false, 0)], k195⟩
def c198 : FnCode := ⟨7, true, [(.tmp 2, false, 0)], k198⟩
def c199 : FnCode := ⟨13, false, [(.tmp 3, false, 0)], k199⟩
def c200 : FnCode := ⟨19, false, [], k200⟩
def c201 : FnCode := ⟨19, true, [(.tmp 4, false, 0)], k201⟩
def c202 : FnCode := ⟨63, false, [(.tmp 2, false, 0), (.tmp 3, false, 0)], k202⟩
def c203 : FnCode := ⟨28, true, [], k203⟩
def c205 : FnCode := ⟨53, true, [], k205⟩
def c206 : FnCode := ⟨60, true, [], k206⟩
def c207 : FnCode := ⟨67, true, [], k207⟩
def c208 : FnCode := ⟨63, true, [(.tmp 8, false, 0), (.tmp 9, false, 0)], k208⟩
def c209 : FnCode := ⟨34, true, [], k209⟩
def c210 : FnCode := ⟨141, true, [(.tmp 8, false, 0)], k210⟩
def c211 : FnCode := ⟨90, true, [(.tmp 10, false, 0)], k211⟩
def c212 : FnCode := ⟨178, true, [(.tmp 10, false, 0), (.tmp 11, false, 0)], k212⟩
def c213 : FnCode := ⟨19, false, [(.tmp 2, false, 0)], k213⟩
def c214 : FnCode := ⟨25, false, [(.tmp 2, false, 0)], k214⟩
def c215 : FnCode := ⟨48, true, [(.tmp 4, false, 0)], k215⟩
def c216 : FnCode := ⟨54, false, [(.tmp 4, false, 0), (.tmp 5, false, 0)], k216⟩
def c219 : FnCode := ⟨11, true, [], k219⟩
def c220 : FnCode := ⟨61, true, [(.tmp 2, false, 0)], k220⟩
def c221 : FnCode := ⟨82, true, [], k221⟩
def c222 : FnCode := ⟨7, false, [(.tmp 2, false, 0)], k222⟩
def c223 : FnCode := ⟨33, true, [(.tmp 2, false, 0)], k223⟩
def c224 : FnCode := ⟨18, true, [(.tmp 8, false, 0)], k224⟩
def c225 : FnCode := ⟨41, true, [(.tmp 12, false, 0)], k225⟩
def c226 : FnCode := ⟨30, false, [(.tmp 4, false, 0), (.tmp 5, false, 0)], k226⟩
def c227 : FnCode := ⟨17, false, [(.tmp 4, false, 0)], k227⟩
def c228 : FnCode := ⟨6, false, [(.tmp 2, false, 0)], k228⟩
def c229 : FnCode := ⟨134, true, [], k229⟩
def c230 : FnCode := ⟨32, true, [(.tmp 10, false, 0), (.tmp 11, false, 0)], k230⟩
def c231 : FnCode := ⟨17, false, [(.tmp 4, false, 0), (.tmp 5, false, 0)], k231⟩
def c232 : FnCode := ⟨51, false, [(.tmp 4, false, 0), (.tmp 5, false, 0)], k232⟩
def c233 : FnCode := ⟨49, true, [], k233⟩
def c234 : FnCode := ⟨56, true, [], k234⟩
def c235 : FnCode := ⟨65, true, [], k235⟩
def c236 : FnCode := ⟨57, true, [(.tmp 6, false, 0), (.tmp 7, false, 0)], k236⟩
def c237 : FnCode := ⟨32, true, [], k237⟩
def c238 : FnCode := ⟨133, true, [(.tmp 6, false, 0)], k238⟩
def c239 : FnCode := ⟨84, true, [(.tmp 8, false, 0)], k239⟩
def c240 : FnCode := ⟨168, true, [(.tmp 8, false, 0), (.tmp 9, false, 0)], k240⟩
def c241 : FnCode := ⟨76, true, [], k241⟩
def c242 : FnCode := ⟨15, true, [(.tmp 6, false, 0)], k242⟩
def c243 : FnCode := ⟨36, true, [(.tmp 10, false, 0)], k243⟩
def c244 : FnCode := ⟨28, true, [(.tmp 8, false, 0), (.tmp 9, false, 0)], k244⟩
def codes : List (Nat × FnCode) := [(9, c9), (15, c15), (21, c21), (24, c24), (27, c27), (32, c32), (38, c38), (39, c39), (41, c41), (42, c42), (43, c43), (44, c44), (45, c45), (52, c52), (54, c54), (57, c57), (58, c58), (59, c59), (60, c60), (62, c62), (66, c66), (69, c69), (72, c72), (75, c75), (76, c76), (84, c84), (85, c85), (86, c86), (87, c87), (88, c88), (93, c93), (94, c94), (95, c95), (96, c96), (100, c100), (101, c101), (102, c102), (103, c103), (104, c104), (105, c105), (106, c106), (107, c107), (108, c108), (109, c109), (110, c110), (111, c111), (112, c112), (113, c113), (114, c114), (119, c119), (120, c120), (122, c122), (127, c127), (128, c128), (129, c129), (130, c130), (136, c136), (137, c137), (138, c138), (141, c141), (145, c145), (146, c146), (147, c147), (148, c148), (149, c149), (152, c152), (153, c153), (154, c154), (155, c155), (156, c156), (157, c157), (158, c158), (159, c159), (160, c160), (161, c161), (162, c162), (165, c165), (166, c166), (167, c167), (168, c168), (169, c169), (170, c170), (171, c171), (172, c172), (173, c173), (174, c174), (176, c176), (179, c179), (180, c180), (181, c181), (182, c182), (183, c183), (185, c185), (186, c186), (187, c187), (188, c188), (189, c189), (190, c190), (191, c191), (192, c192), (193, c193), (194, c194), (195, c195), (198, c198), (199, c199), (200, c200), (201, c201), (202, c202), (203, c203), (205, c205), (206, c206), (207, c207), (208, c208), (209, c209), (210, c210), (211, c211), (212, c212), (213, c213), (214, c214), (215, c215), (216, c216), (219, c219), (220, c220), (221, c221), (222, c222), (223, c223), (224, c224), (225, c225), (226, c226), (227, c227), (228, c228), (229, c229), (230, c230), (231, c231), (232, c232), (233, c233), (234, c234), (235, c235), (236, c236), (237, c237), (238, c238), (239, c239), (240, c240), (241, c241), (242, c242), (243, c243), (244, c244)]
def codeAt (f : Nat) : Option FnCode := (bif Nat.blt f 160 then (bif Nat.blt f 102 then (bif Nat.blt f 60 then (bif Nat.blt f 42 then (bif Nat.blt f 27 then (bif Nat.blt f 21 then (bif Nat.blt f 15 then (bif Nat.beq f 9 then some c9 else none) else (bif Nat.beq f 15 then some c15 else none)) else (bif Nat.blt f 24 then (bif Nat.beq f 21 then some c21 else none) else (bif Nat.beq f 24 then some c24 else none))) else (bif Nat.blt f 38 then (bif Nat.blt f 32 then (bif Nat.beq f 27 then some c27 else none) else (bif Nat.beq f 32 then some c32 else none)) else (bif Nat.blt f 39 then (bif Nat.beq f 38 then some c38 else none) else (bif Nat.blt f 41 then (bif Nat.beq f 39 then some c39 else none) else (bif Nat.beq f 41 then some c41 else none))))) else (bif Nat.blt f 52 then (bif Nat.blt f 44 then (bif Nat.blt f 43 then (bif Nat.beq f 42 then some c42 else none) else (bif Nat.beq f 43 then some c43 else none)) else (bif Nat.blt f 45 then (bif Nat.beq f 44 then some c44 else none) else (bif Nat.beq f 45 then some c45 else none))) else (bif Nat.blt f 57 then (bif Nat.blt f 54 then (bif Nat.beq f 52 then some c52 else none) else (bif Nat.beq f 54 then some c54 else none)) else (bif Nat.blt f 58 then (bif Nat.beq f 57 then some c57 else none) else (bif Nat.blt f 59 then (bif Nat.beq f 58 then some c58 else none) else (bif Nat.beq f 59 then some c59 else none)))))) else (bif Nat.blt f 86 then (bif Nat.blt f 72 then (bif Nat.blt f 66 then (bif Nat.blt f 62 then (bif Nat.beq f 60 then some c60 else none) else (bif Nat.beq f 62 then some c62 else none)) else (bif Nat.blt f 69 then (bif Nat.beq f 66 then some c66 else none) else (bif Nat.beq f 69 then some c69 else none))) else (bif Nat.blt f 76 then (bif Nat.blt f 75 then (bif Nat.beq f 72 then some c72 else none) else (bif Nat.beq f 75 then some c75 else none)) else (bif Nat.blt f 84 then (bif Nat.beq f 76 then some c76 else none) else (bif Nat.blt f 85 then (bif Nat.beq f 84 then some c84 else none) else (bif Nat.beq f 85 then some c85 else none))))) else (bif Nat.blt f 94 then (bif Nat.blt f 88 then (bif Nat.blt f 87 then (bif Nat.beq f 86 then some c86 else none) else (bif Nat.beq f 87 then some c87 else none)) else (bif Nat.blt f 93 then (bif Nat.beq f 88 then some c88 else none) else (bif Nat.beq f 93 then some c93 else none))) else (bif Nat.blt f 96 then (bif Nat.blt f 95 then (bif Nat.beq f 94 then some c94 else none) else (bif Nat.beq f 95 then some c95 else none)) else (bif Nat.blt f 100 then (bif Nat.beq f 96 then some c96 else none) else (bif Nat.blt f 101 then (bif Nat.beq f 100 then some c100 else none) else (bif Nat.beq f 101 then some c101 else none))))))) else (bif Nat.blt f 129 then (bif Nat.blt f 111 then (bif Nat.blt f 106 then (bif Nat.blt f 104 then (bif Nat.blt f 103 then (bif Nat.beq f 102 then some c102 else none) else (bif Nat.beq f 103 then some c103 else none)) else (bif Nat.blt f 105 then (bif Nat.beq f 104 then some c104 else none) else (bif Nat.beq f 105 then some c105 else none))) else (bif Nat.blt f 108 then (bif Nat.blt f 107 then (bif Nat.beq f 106 then some c106 else none) else (bif Nat.beq f 107 then some c107 else none)) else (bif Nat.blt f 109 then (bif Nat.beq f 108 then some c108 else none) else (bif Nat.blt f 110 then (bif Nat.beq f 109 then some c109 else none) else (bif Nat.beq f 110 then some c110 else none))))) else (bif Nat.blt f 119 then (bif Nat.blt f 113 then (bif Nat.blt f 112 then (bif Nat.beq f 111 then some c111 else none) else (bif Nat.beq f 112 then some c112 else none)) else (bif Nat.blt f 114 then (bif Nat.beq f 113 then some c113 else none) else (bif Nat.beq f 114 then some c114 else none))) else (bif Nat.blt f 122 then (bif Nat.blt f 120 then (bif Nat.beq f 119 then some c119 else none) else (bif Nat.beq f 120 then some c120 else none)) else (bif Nat.blt f 127 then (bif Nat.beq f 122 then some c122 else none) else (bif Nat.blt f 128 then (bif Nat.beq f 127 then some c127 else none) else (bif Nat.beq f 128 then some c128 else none)))))) else (bif Nat.blt f 148 then (bif Nat.blt f 138 then (bif Nat.blt f 136 then (bif Nat.blt f 130 then (bif Nat.beq f 129 then some c129 else none) else (bif Nat.beq f 130 then some c130 else none)) else (bif Nat.blt f 137 then (bif Nat.beq f 136 then some c136 else none) else (bif Nat.beq f 137 then some c137 else none))) else (bif Nat.blt f 145 then (bif Nat.blt f 141 then (bif Nat.beq f 138 then some c138 else none) else (bif Nat.beq f 141 then some c141 else none)) else (bif Nat.blt f 146 then (bif Nat.beq f 145 then some c145 else none) else (bif Nat.blt f 147 then (bif Nat.beq f 146 then some c146 else none) else (bif Nat.beq f 147 then some c147 else none))))) else (bif Nat.blt f 155 then (bif Nat.blt f 152 then (bif Nat.blt f 149 then (bif Nat.beq f 148 then some c148 else none) else (bif Nat.beq f 149 then some c149 else none)) else (bif Nat.blt f 153 then (bif Nat.beq f 152 then some c152 else none) else (bif Nat.blt f 154 then (bif Nat.beq f 153 then some c153 else none) else (bif Nat.beq f 154 then some c154 else none)))) else (bif Nat.blt f 157 then (bif Nat.blt f 156 then (bif Nat.beq f 155 then some c155 else none) else (bif Nat.beq f 156 then some c156 else none)) else (bif Nat.blt f 158 then (bif Nat.beq f 157 then some c157 else none) else (bif Nat.blt f 159 then (bif Nat.beq f 158 then some c158 else none) else (bif Nat.beq f 159 then some c159 else none)))))))) else (bif Nat.blt f 206 then (bif Nat.blt f 183 then (bif Nat.blt f 171 then (bif Nat.blt f 166 then (bif Nat.blt f 162 then (bif Nat.blt f 161 then (bif Nat.beq f 160 then some c160 else none) else (bif Nat.beq f 161 then some c161 else none)) else (bif Nat.blt f 165 then (bif Nat.beq f 162 then some c162 else none) else (bif Nat.beq f 165 then some c165 else none))) else (bif Nat.blt f 168 then (bif Nat.blt f 167 then (bif Nat.beq f 166 then some c166 else none) else (bif Nat.beq f 167 then some c167 else none)) else (bif Nat.blt f 169 then (bif Nat.beq f 168 then some c168 else none) else (bif Nat.blt f 170 then (bif Nat.beq f 169 then some c169 else none) else (bif Nat.beq f 170 then some c170 else none))))) else (bif Nat.blt f 176 then (bif Nat.blt f 173 then (bif Nat.blt f 172 then (bif Nat.beq f 171 then some c171 else none) else (bif Nat.beq f 172 then some c172 else none)) else (bif Nat.blt f 174 then (bif Nat.beq f 173 then some c173 else none) else (bif Nat.beq f 174 then some c174 else none))) else (bif Nat.blt f 180 then (bif Nat.blt f 179 then (bif Nat.beq f 176 then some c176 else none) else (bif Nat.beq f 179 then some c179 else none)) else (bif Nat.blt f 181 then (bif Nat.beq f 180 then some c180 else none) else (bif Nat.blt f 182 then (bif Nat.beq f 181 then some c181 else none) else (bif Nat.beq f 182 then some c182 else none)))))) else (bif Nat.blt f 193 then (bif Nat.blt f 188 then (bif Nat.blt f 186 then (bif Nat.blt f 185 then (bif Nat.beq f 183 then some c183 else none) else (bif Nat.beq f 185 then some c185 else none)) else (bif Nat.blt f 187 then (bif Nat.beq f 186 then some c186 else none) else (bif Nat.beq f 187 then some c187 else none))) else (bif Nat.blt f 190 then (bif Nat.blt f 189 then (bif Nat.beq f 188 then some c188 else none) else (bif Nat.beq f 189 then some c189 else none)) else (bif Nat.blt f 191 then (bif Nat.beq f 190 then some c190 else none) else (bif Nat.blt f 192 then (bif Nat.beq f 191 then some c191 else none) else (bif Nat.beq f 192 then some c192 else none))))) else (bif Nat.blt f 200 then (bif Nat.blt f 195 then (bif Nat.blt f 194 then (bif Nat.beq f 193 then some c193 else none) else (bif Nat.beq f 194 then some c194 else none)) else (bif Nat.blt f 198 then (bif Nat.beq f 195 then some c195 else none) else (bif Nat.blt f 199 then (bif Nat.beq f 198 then some c198 else none) else (bif Nat.beq f 199 then some c199 else none)))) else (bif Nat.blt f 202 then (bif Nat.blt f 201 then (bif Nat.beq f 200 then some c200 else none) else (bif Nat.beq f 201 then some c201 else none)) else (bif Nat.blt f 203 then (bif Nat.beq f 202 then some c202 else none) else (bif Nat.blt f 205 then (bif Nat.beq f 203 then some c203 else none) else (bif Nat.beq f 205 then some c205 else none))))))) else (bif Nat.blt f 226 then (bif Nat.blt f 215 then (bif Nat.blt f 210 then (bif Nat.blt f 208 then (bif Nat.blt f 207 then (bif Nat.beq f 206 then some c206 else none) else (bif Nat.beq f 207 then some c207 else none)) else (bif Nat.blt f 209 then (bif Nat.beq f 208 then some c208 else none) else (bif Nat.beq f 209 then some c209 else none))) else (bif Nat.blt f 212 then (bif Nat.blt f 211 then (bif Nat.beq f 210 then some c210 else none) else (bif Nat.beq f 211 then some c211 else none)) else (bif Nat.blt f 213 then (bif Nat.beq f 212 then some c212 else none) else (bif Nat.blt f 214 then (bif Nat.beq f 213 then some c213 else none) else (bif Nat.beq f 214 then some c214 else none))))) else (bif Nat.blt f 221 then (bif Nat.blt f 219 then (bif Nat.blt f 216 then (bif Nat.beq f 215 then some c215 else none) else (bif Nat.beq f 216 then some c216 else none)) else (bif Nat.blt f 220 then (bif Nat.beq f 219 then some c219 else none) else (bif Nat.beq f 220 then some c220 else none))) else (bif Nat.blt f 223 then (bif Nat.blt f 222 then (bif Nat.beq f 221 then some c221 else none) else (bif Nat.beq f 222 then some c222 else none)) else (bif Nat.blt f 224 then (bif Nat.beq f 223 then some c223 else none) else (bif Nat.blt f 225 then (bif Nat.beq f 224 then some c224 else none) else (bif Nat.beq f 225 then some c225 else none)))))) else (bif Nat.blt f 235 then (bif Nat.blt f 230 then (bif Nat.blt f 228 then (bif Nat.blt f 227 then (bif Nat.beq f 226 then some c226 else none) else (bif Nat.beq f 227 then some c227 else none)) else (bif Nat.blt f 229 then (bif Nat.beq f 228 then some c228 else none) else (bif Nat.beq f 229 then some c229 else none))) else (bif Nat.blt f 232 then (bif Nat.blt f 231 then (bif Nat.beq f 230 then some c230 else none) else (bif Nat.beq f 231 then some c231 else none)) else (bif Nat.blt f 233 then (bif Nat.beq f 232 then some c232 else none) else (bif Nat.blt f 234 then (bif Nat.beq f 233 then some c233 else none) else (bif Nat.beq f 234 then some c234 else none))))) else (bif Nat.blt f 240 then (bif Nat.blt f 237 then (bif Nat.blt f 236 then (bif Nat.beq f 235 then some c235 else none) else (bif Nat.beq f 236 then some c236 else none)) else (bif Nat.blt f 238 then (bif Nat.beq f 237 then some c237 else none) else (bif Nat.blt f 239 then (bif Nat.beq f 238 then some c238 else none) else (bif Nat.beq f 239 then some c239 else none)))) else (bif Nat.blt f 242 then (bif Nat.blt f 241 then (bif Nat.beq f 240 then some c240 else none) else (bif Nat.beq f 241 then some c241 else none)) else (bif Nat.blt f 243 then (bif Nat.beq f 242 then some c242 else none) else (bif Nat.blt f 244 then (bif Nat.beq f 243 then some c243 else none) else (bif Nat.beq f 244 then some c244 else none)))))))))
theorem kc9 : codeOf Tryz.prog 9 = some (32, [(.tmp 4, false, 0)], k9) := by kernel_rfl
theorem kc15 : codeOf Tryz.prog 15 = some (42, [(.tmp 4, false, 0), (.tmp 5, false, 0)], k15) := by kernel_rfl
theorem kc21 : codeOf Tryz.prog 21 = some (83, [(.tmp 0, false, 0)], k21) := by kernel_rfl
theorem kc24 : codeOf Tryz.prog 24 = some (15, [(.tmp 2, false, 0), (.tmp 3, false, 0)], k24) := by kernel_rfl
theorem kc27 : codeOf Tryz.prog 27 = some (27, [(.tmp 4, false, 0)], k27) := by kernel_rfl
theorem kc32 : codeOf Tryz.prog 32 = some (25, [(.tmp 6, false, 0), (.tmp 7, false, 0)], k32) := by kernel_rfl
theorem kc38 : codeOf Tryz.prog 38 = some (26, [(.tmp 4, false, 0)], k38) := by kernel_rfl
theorem kc39 : codeOf Tryz.prog 39 = some (51, [(.tmp 4, false, 0), (.tmp 5, false, 0), (.tmp 6, false, 0)], k39) := by kernel_rfl
theorem kc41 : codeOf Tryz.prog 41 = some (26, [(.tmp 4, false, 0)], k41) := by kernel_rfl
theorem kc42 : codeOf Tryz.prog 42 = some (26, [(.tmp 4, false, 0)], k42) := by kernel_rfl
theorem kc43 : codeOf Tryz.prog 43 = some (52, [(.tmp 4, false, 0), (.tmp 5, false, 0)], k43) := by kernel_rfl
theorem kc44 : codeOf Tryz.prog 44 = some (34, [(.tmp 4, false, 0)], k44) := by kernel_rfl
theorem kc45 : codeOf Tryz.prog 45 = some (36, [(.tmp 4, false, 0), (.tmp 5, false, 0)], k45) := by kernel_rfl
theorem kc52 : codeOf Tryz.prog 52 = some (31, [(.tmp 2, false, 0)], k52) := by kernel_rfl
theorem kc54 : codeOf Tryz.prog 54 = some (21, [(.tmp 4, false, 0), (.tmp 5, false, 0)], k54) := by kernel_rfl
theorem kc57 : codeOf Tryz.prog 57 = some (66, [(.tmp 2, false, 0)], k57) := by kernel_rfl
theorem kc58 : codeOf Tryz.prog 58 = some (15, [(.tmp 6, false, 0)], k58) := by kernel_rfl
theorem kc59 : codeOf Tryz.prog 59 = some (31, [(.tmp 4, false, 0)], k59) := by kernel_rfl
theorem kc60 : codeOf Tryz.prog 60 = some (69, [(.tmp 2, false, 0)], k60) := by kernel_rfl
theorem kc62 : codeOf Tryz.prog 62 = some (32, [(.tmp 4, false, 0)], k62) := by kernel_rfl
theorem kc66 : codeOf Tryz.prog 66 = some (8, [(.tmp 2, false, 0)], k66) := by kernel_rfl
theorem kc69 : codeOf Tryz.prog 69 = some (17, [(.cell 0 25, true, 2)], k69) := by kernel_rfl
theorem kc72 : codeOf Tryz.prog 72 = some (11, [(.tmp 2, false, 0)], k72) := by kernel_rfl
theorem kc75 : codeOf Tryz.prog 75 = some (8, [], k75) := by kernel_rfl
theorem kc76 : codeOf Tryz.prog 76 = some (10, [(.tmp 5, false, 0)], k76) := by kernel_rfl
theorem kc84 : codeOf Tryz.prog 84 = some (49, [(.tmp 4, false, 0)], k84) := by kernel_rfl
theorem kc85 : codeOf Tryz.prog 85 = some (26, [(.tmp 6, false, 0)], k85) := by kernel_rfl
theorem kc86 : codeOf Tryz.prog 86 = some (25, [(.tmp 7, false, 0)], k86) := by kernel_rfl
theorem kc87 : codeOf Tryz.prog 87 = some (28, [(.cell 6 77, true, 2)], k87) := by kernel_rfl
theorem kc88 : codeOf Tryz.prog 88 = some (49, [(.tmp 2, false, 0)], k88) := by kernel_rfl
theorem kc93 : codeOf Tryz.prog 93 = some (30, [(.tmp 6, false, 0)], k93) := by kernel_rfl
theorem kc94 : codeOf Tryz.prog 94 = some (36, [(.tmp 2, false, 0)], k94) := by kernel_rfl
theorem kc95 : codeOf Tryz.prog 95 = some (26, [(.tmp 4, false, 0), (.tmp 5, false, 0)], k95) := by kernel_rfl
theorem kc96 : codeOf Tryz.prog 96 = some (28, [(.tmp 4, false, 0)], k96) := by kernel_rfl
theorem kc100 : codeOf Tryz.prog 100 = some (32, [(.tmp 6, false, 0)], k100) := by kernel_rfl
theorem kc101 : codeOf Tryz.prog 101 = some (30, [(.tmp 2, false, 0)], k101) := by kernel_rfl
theorem kc102 : codeOf Tryz.prog 102 = some (9, [(.tmp 4, false, 0)], k102) := by kernel_rfl
theorem kc103 : codeOf Tryz.prog 103 = some (9, [(.tmp 4, false, 0)], k103) := by kernel_rfl
theorem kc104 : codeOf Tryz.prog 104 = some (6, [(.tmp 2, false, 0)], k104) := by kernel_rfl
theorem kc105 : codeOf Tryz.prog 105 = some (12, [(.tmp 2, false, 0)], k105) := by kernel_rfl
theorem kc106 : codeOf Tryz.prog 106 = some (22, [(.tmp 2, false, 0)], k106) := by kernel_rfl
theorem kc107 : codeOf Tryz.prog 107 = some (8, [(.tmp 3, false, 0)], k107) := by kernel_rfl
theorem kc108 : codeOf Tryz.prog 108 = some (9, [(.tmp 4, false, 0)], k108) := by kernel_rfl
theorem kc109 : codeOf Tryz.prog 109 = some (19, [(.tmp 3, false, 0)], k109) := by kernel_rfl
theorem kc110 : codeOf Tryz.prog 110 = some (19, [(.tmp 4, false, 0)], k110) := by kernel_rfl
theorem kc111 : codeOf Tryz.prog 111 = some (20, [(.tmp 4, false, 0)], k111) := by kernel_rfl
theorem kc112 : codeOf Tryz.prog 112 = some (19, [(.tmp 2, false, 0)], k112) := by kernel_rfl
theorem kc113 : codeOf Tryz.prog 113 = some (26, [(.tmp 2, false, 0)], k113) := by kernel_rfl
theorem kc114 : codeOf Tryz.prog 114 = some (44, [(.tmp 2, false, 0)], k114) := by kernel_rfl
theorem kc119 : codeOf Tryz.prog 119 = some (22, [(.tmp 4, false, 0)], k119) := by kernel_rfl
theorem kc120 : codeOf Tryz.prog 120 = some (36, [(.tmp 2, false, 0), (.tmp 3, false, 0)], k120) := by kernel_rfl
theorem kc122 : codeOf Tryz.prog 122 = some (22, [(.tmp 2, false, 0)], k122) := by kernel_rfl
theorem kc127 : codeOf Tryz.prog 127 = some (25, [(.tmp 2, false, 0)], k127) := by kernel_rfl
theorem kc128 : codeOf Tryz.prog 128 = some (43, [(.tmp 2, false, 0)], k128) := by kernel_rfl
theorem kc129 : codeOf Tryz.prog 129 = some (19, [(.tmp 2, false, 0)], k129) := by kernel_rfl
theorem kc130 : codeOf Tryz.prog 130 = some (52, [(.tmp 2, false, 0)], k130) := by kernel_rfl
theorem kc136 : codeOf Tryz.prog 136 = some (19, [(.tmp 4, false, 0)], k136) := by kernel_rfl
theorem kc137 : codeOf Tryz.prog 137 = some (13, [(.tmp 2, false, 0), (.tmp 3, false, 0)], k137) := by kernel_rfl
theorem kc138 : codeOf Tryz.prog 138 = some (21, [(.tmp 2, false, 0)], k138) := by kernel_rfl
theorem kc141 : codeOf Tryz.prog 141 = some (43, [(.tmp 5, false, 0)], k141) := by kernel_rfl
theorem kc145 : codeOf Tryz.prog 145 = some (9, [(.tmp 4, false, 0)], k145) := by kernel_rfl
theorem kc146 : codeOf Tryz.prog 146 = some (45, [(.tmp 6, false, 0), (.tmp 7, false, 0), (.tmp 8, false, 0)], k146) := by kernel_rfl
theorem kc147 : codeOf Tryz.prog 147 = some (14, [], k147) := by kernel_rfl
theorem kc148 : codeOf Tryz.prog 148 = some (10, [(.tmp 4, false, 0)], k148) := by kernel_rfl
theorem kc149 : codeOf Tryz.prog 149 = some (20, [(.tmp 4, false, 0)], k149) := by kernel_rfl
theorem kc152 : codeOf Tryz.prog 152 = some (27, [(.tmp 4, false, 0)], k152) := by kernel_rfl
theorem kc153 : codeOf Tryz.prog 153 = some (41, [(.cell 2 181, true, 2), (.tmp 3, false, 0)], k153) := by kernel_rfl
theorem kc154 : codeOf Tryz.prog 154 = some (81, [(.cell 4 186, true, 2)], k154) := by kernel_rfl
theorem kc155 : codeOf Tryz.prog 155 = some (3, [(.tmp 2, false, 0)], k155) := by kernel_rfl
theorem kc156 : codeOf Tryz.prog 156 = some (15, [(.cell 2 190, true, 4)], k156) := by kernel_rfl
theorem kc157 : codeOf Tryz.prog 157 = some (71, [(.tmp 4, false, 0)], k157) := by kernel_rfl
theorem kc158 : codeOf Tryz.prog 158 = some (21, [], k158) := by kernel_rfl
theorem kc159 : codeOf Tryz.prog 159 = some (30, [(.tmp 2, false, 0)], k159) := by kernel_rfl
theorem kc160 : codeOf Tryz.prog 160 = some (19, [(.tmp 4, false, 0)], k160) := by kernel_rfl
theorem kc161 : codeOf Tryz.prog 161 = some (19, [(.tmp 4, false, 0)], k161) := by kernel_rfl
theorem kc162 : codeOf Tryz.prog 162 = some (15, [(.tmp 6, false, 0)], k162) := by kernel_rfl
theorem kc165 : codeOf Tryz.prog 165 = some (26, [(.tmp 2, false, 0)], k165) := by kernel_rfl
theorem kc166 : codeOf Tryz.prog 166 = some (19, [(.tmp 2, false, 0)], k166) := by kernel_rfl
theorem kc167 : codeOf Tryz.prog 167 = some (8, [(.tmp 2, false, 0)], k167) := by kernel_rfl
theorem kc168 : codeOf Tryz.prog 168 = some (4, [(.tmp 2, false, 0)], k168) := by kernel_rfl
theorem kc169 : codeOf Tryz.prog 169 = some (15, [(.tmp 4, false, 0)], k169) := by kernel_rfl
theorem kc170 : codeOf Tryz.prog 170 = some (42, [(.tmp 4, false, 0)], k170) := by kernel_rfl
theorem kc171 : codeOf Tryz.prog 171 = some (9, [(.tmp 3, false, 0)], k171) := by kernel_rfl
theorem kc172 : codeOf Tryz.prog 172 = some (40, [(.tmp 2, false, 0)], k172) := by kernel_rfl
theorem kc173 : codeOf Tryz.prog 173 = some (42, [(.tmp 2, false, 0)], k173) := by kernel_rfl
theorem kc174 : codeOf Tryz.prog 174 = some (7, [(.tmp 2, false, 0)], k174) := by kernel_rfl
theorem kc176 : codeOf Tryz.prog 176 = some (57, [(.tmp 2, false, 0)], k176) := by kernel_rfl
theorem kc179 : codeOf Tryz.prog 179 = some (19, [(.tmp 4, false, 0)], k179) := by kernel_rfl
theorem kc180 : codeOf Tryz.prog 180 = some (49, [(.cell 6 214, true, 4), (.tmp 7, false, 0)], k180) := by kernel_rfl
theorem kc181 : codeOf Tryz.prog 181 = some (148, [], k181) := by kernel_rfl
theorem kc182 : codeOf Tryz.prog 182 = some (8, [(.tmp 2, false, 0)], k182) := by kernel_rfl
theorem kc183 : codeOf Tryz.prog 183 = some (6, [(.tmp 2, false, 0)], k183) := by kernel_rfl
theorem kc185 : codeOf Tryz.prog 185 = some (12, [(.tmp 2, false, 0)], k185) := by kernel_rfl
theorem kc186 : codeOf Tryz.prog 186 = some (31, [(.cell 2 181, true, 2)], k186) := by kernel_rfl
theorem kc187 : codeOf Tryz.prog 187 = some (27, [], k187) := by kernel_rfl
theorem kc188 : codeOf Tryz.prog 188 = some (58, [], k188) := by kernel_rfl
theorem kc189 : codeOf Tryz.prog 189 = some (16, [(.tmp 4, false, 0)], k189) := by kernel_rfl
theorem kc190 : codeOf Tryz.prog 190 = some (69, [(.tmp 4, false, 0), (.tmp 5, false, 0), (.tmp 6, false, 0)], k190) := by kernel_rfl
theorem kc191 : codeOf Tryz.prog 191 = some (15, [], k191) := by kernel_rfl
theorem kc192 : codeOf Tryz.prog 192 = some (18, [], k192) := by kernel_rfl
theorem kc193 : codeOf Tryz.prog 193 = some (14, [(.tmp 2, false, 0)], k193) := by kernel_rfl
theorem kc194 : codeOf Tryz.prog 194 = some (17, [(.tmp 6, false, 0)], k194) := by kernel_rfl
theorem kc195 : codeOf Tryz.prog 195 = some (15, [(.tmp 6, false, 0)], k195) := by kernel_rfl
theorem kc198 : codeOf Tryz.prog 198 = some (7, [(.tmp 2, false, 0)], k198) := by kernel_rfl
theorem kc199 : codeOf Tryz.prog 199 = some (13, [(.tmp 3, false, 0)], k199) := by kernel_rfl
theorem kc200 : codeOf Tryz.prog 200 = some (19, [], k200) := by kernel_rfl
theorem kc201 : codeOf Tryz.prog 201 = some (19, [(.tmp 4, false, 0)], k201) := by kernel_rfl
theorem kc202 : codeOf Tryz.prog 202 = some (63, [(.tmp 2, false, 0), (.tmp 3, false, 0)], k202) := by kernel_rfl
theorem kc203 : codeOf Tryz.prog 203 = some (28, [], k203) := by kernel_rfl
theorem kc205 : codeOf Tryz.prog 205 = some (53, [], k205) := by kernel_rfl
theorem kc206 : codeOf Tryz.prog 206 = some (60, [], k206) := by kernel_rfl
theorem kc207 : codeOf Tryz.prog 207 = some (67, [], k207) := by kernel_rfl
theorem kc208 : codeOf Tryz.prog 208 = some (63, [(.tmp 8, false, 0), (.tmp 9, false, 0)], k208) := by kernel_rfl
theorem kc209 : codeOf Tryz.prog 209 = some (34, [], k209) := by kernel_rfl
theorem kc210 : codeOf Tryz.prog 210 = some (141, [(.tmp 8, false, 0)], k210) := by kernel_rfl
theorem kc211 : codeOf Tryz.prog 211 = some (90, [(.tmp 10, false, 0)], k211) := by kernel_rfl
theorem kc212 : codeOf Tryz.prog 212 = some (178, [(.tmp 10, false, 0), (.tmp 11, false, 0)], k212) := by kernel_rfl
theorem kc213 : codeOf Tryz.prog 213 = some (19, [(.tmp 2, false, 0)], k213) := by kernel_rfl
theorem kc214 : codeOf Tryz.prog 214 = some (25, [(.tmp 2, false, 0)], k214) := by kernel_rfl
theorem kc215 : codeOf Tryz.prog 215 = some (48, [(.tmp 4, false, 0)], k215) := by kernel_rfl
theorem kc216 : codeOf Tryz.prog 216 = some (54, [(.tmp 4, false, 0), (.tmp 5, false, 0)], k216) := by kernel_rfl
theorem kc219 : codeOf Tryz.prog 219 = some (11, [], k219) := by kernel_rfl
theorem kc220 : codeOf Tryz.prog 220 = some (61, [(.tmp 2, false, 0)], k220) := by kernel_rfl
theorem kc221 : codeOf Tryz.prog 221 = some (82, [], k221) := by kernel_rfl
theorem kc222 : codeOf Tryz.prog 222 = some (7, [(.tmp 2, false, 0)], k222) := by kernel_rfl
theorem kc223 : codeOf Tryz.prog 223 = some (33, [(.tmp 2, false, 0)], k223) := by kernel_rfl
theorem kc224 : codeOf Tryz.prog 224 = some (18, [(.tmp 8, false, 0)], k224) := by kernel_rfl
theorem kc225 : codeOf Tryz.prog 225 = some (41, [(.tmp 12, false, 0)], k225) := by kernel_rfl
theorem kc226 : codeOf Tryz.prog 226 = some (30, [(.tmp 4, false, 0), (.tmp 5, false, 0)], k226) := by kernel_rfl
theorem kc227 : codeOf Tryz.prog 227 = some (17, [(.tmp 4, false, 0)], k227) := by kernel_rfl
theorem kc228 : codeOf Tryz.prog 228 = some (6, [(.tmp 2, false, 0)], k228) := by kernel_rfl
theorem kc229 : codeOf Tryz.prog 229 = some (134, [], k229) := by kernel_rfl
theorem kc230 : codeOf Tryz.prog 230 = some (32, [(.tmp 10, false, 0), (.tmp 11, false, 0)], k230) := by kernel_rfl
theorem kc231 : codeOf Tryz.prog 231 = some (17, [(.tmp 4, false, 0), (.tmp 5, false, 0)], k231) := by kernel_rfl
theorem kc232 : codeOf Tryz.prog 232 = some (51, [(.tmp 4, false, 0), (.tmp 5, false, 0)], k232) := by kernel_rfl
theorem kc233 : codeOf Tryz.prog 233 = some (49, [], k233) := by kernel_rfl
theorem kc234 : codeOf Tryz.prog 234 = some (56, [], k234) := by kernel_rfl
theorem kc235 : codeOf Tryz.prog 235 = some (65, [], k235) := by kernel_rfl
theorem kc236 : codeOf Tryz.prog 236 = some (57, [(.tmp 6, false, 0), (.tmp 7, false, 0)], k236) := by kernel_rfl
theorem kc237 : codeOf Tryz.prog 237 = some (32, [], k237) := by kernel_rfl
theorem kc238 : codeOf Tryz.prog 238 = some (133, [(.tmp 6, false, 0)], k238) := by kernel_rfl
theorem kc239 : codeOf Tryz.prog 239 = some (84, [(.tmp 8, false, 0)], k239) := by kernel_rfl
theorem kc240 : codeOf Tryz.prog 240 = some (168, [(.tmp 8, false, 0), (.tmp 9, false, 0)], k240) := by kernel_rfl
theorem kc241 : codeOf Tryz.prog 241 = some (76, [], k241) := by kernel_rfl
theorem kc242 : codeOf Tryz.prog 242 = some (15, [(.tmp 6, false, 0)], k242) := by kernel_rfl
theorem kc243 : codeOf Tryz.prog 243 = some (36, [(.tmp 10, false, 0)], k243) := by kernel_rfl
theorem kc244 : codeOf Tryz.prog 244 = some (28, [(.tmp 8, false, 0), (.tmp 9, false, 0)], k244) := by kernel_rfl
end Go.Proofs.YtlfknfknlcgfcaaGreatDoor
