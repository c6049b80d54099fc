/- The small code of the functions of this program, as its own reader reads them: it is the program. -/
import Derived.Test.YtgbkdjlekfjkfaaGreatDoorProg
import Derived.Test.YtgbkdjlekfjkfaaGreatDoorCodeB
namespace Go.Proofs.YtgbkdjlekfjkfaaGreatDoor
open Go Go.Em
set_option maxRecDepth 100000
def c5 : FnCode := ⟨64, false, [(.tmp 4, false, 0)], k5⟩
def c9 : FnCode := ⟨22, false, [(.tmp 2, false, 0)], k9⟩
def c10 : FnCode := ⟨96, false, [(.tmp 0, false, 0)], k10⟩
def c11 : FnCode := ⟨26, false, [(.tmp 4, false, 0), (.tmp 5, false, 0)], k11⟩
def c13 : FnCode := ⟨11, false, [(.tmp 2, false, 0)], k13⟩
def c18 : FnCode := ⟨48, false, [(.tmp 4, false, 0)], k18⟩
def c19 : FnCode := ⟨45, false, [(.tmp 4, false, 0)], k19⟩
def c20 : FnCode := ⟨8, false, [(.tmp 2, false, 0)], k20⟩
def c21 : FnCode := ⟨9, false, [(.tmp 4, false, 0)], k21⟩
def c22 : FnCode := ⟨12, false, [(.tmp 4, false, 0)], k22⟩
def c23 : FnCode := ⟨49, false, [(.tmp 4, false, 0)], k23⟩
def c38 : FnCode := ⟨25, false, [(.tmp 2, false, 0)], k38⟩
def c39 : FnCode := ⟨81, false, [(.cell 4 65, true, 2)], k39⟩
def c40 : FnCode := ⟨3, false, [(.tmp 2, false, 0)], k40⟩
def c42 : FnCode := ⟨40, false, [(.tmp 2, false, 0)], k42⟩
def c43 : FnCode := ⟨21, false, [(.tmp 2, false, 0)], k43⟩
def c44 : FnCode := ⟨6, false, [(.tmp 0, false, 0)], k44⟩
def c45 : FnCode := ⟨45, false, [(.tmp 6, false, 0), (.tmp 7, false, 0), (.tmp 8, false, 0)], k45⟩
def c46 : FnCode := ⟨45, false, [(.tmp 6, false, 0), (.tmp 7, false, 0), (.tmp 8, false, 0)], k46⟩
def c47 : FnCode := ⟨36, true, [(.tmp 2, false, 0), (.tmp 3, false, 0)], k47⟩
def c48 : FnCode := ⟨26, false, [(.tmp 4, false, 0)], k48⟩
def c49 : FnCode := ⟨26, false, [(.tmp 4, false, 0)], k49⟩
def c50 : FnCode := ⟨26, false, [(.tmp 4, false, 0)], k50⟩
def c51 : FnCode := ⟨27, false, [(.tmp 4, false, 0)], k51⟩
def c52 : FnCode := ⟨41, false, [(.cell 2 90, true, 2), (.tmp 3, false, 0)], k52⟩
def c53 : FnCode := ⟨15, true, [(.cell 2 95, true, 4)], k53⟩
def c54 : FnCode := ⟨71, true, [(.tmp 4, false, 0)], k54⟩
def c56 : FnCode := ⟨101, false, [(.cell 2 88, true, 2), (.tmp 3, false, 0)], k56⟩
def c60 : FnCode := ⟨49, false, [(.cell 6 106, true, 4), (.tmp 7, false, 0)], k60⟩
def c61 : FnCode := ⟨17, false, [(.tmp 6, false, 0)], k61⟩
def c62 : FnCode := ⟨15, false, [(.tmp 6, false, 0)], k62⟩
def c63 : FnCode := ⟨15, true, [], k63⟩
def c67 : FnCode := ⟨26, true, [(.tmp 2, false, 0)], k67⟩
def c68 : FnCode := ⟨9, false, [(.tmp 4, false, 0)], k68⟩
def c69 : FnCode := ⟨19, true, [(.tmp 2, false, 0)], k69⟩
def c70 : FnCode := ⟨8, false, [(.tmp 2, false, 0)], k70⟩
def c71 : FnCode := ⟨9, true, [(.tmp 4, false, 0)], k71⟩
def c72 : FnCode := ⟨15, true, [(.tmp 4, false, 0)], k72⟩
def c73 : FnCode := ⟨20, false, [(.tmp 2, false, 0)], k73⟩
def c74 : FnCode := ⟨24, false, [(.tmp 4, false, 0)], k74⟩
def c75 : FnCode := ⟨18, false, [(.tmp 2, false, 0)], k75⟩
def c76 : FnCode := ⟨23, false, [(.tmp 4, false, 0)], k76⟩
def c77 : FnCode := ⟨19, false, [(.tmp 4, false, 0)], k77⟩
def c78 : FnCode := ⟨42, true, [(.tmp 4, false, 0)], k78⟩
def c79 : FnCode := ⟨8, true, [(.tmp 2, false, 0)], k79⟩
def c80 : FnCode := ⟨8, false, [(.tmp 3, false, 0)], k80⟩
def c98 : FnCode := ⟨42, false, [(.tmp 2, false, 0)], k98⟩
def c99 : FnCode := ⟨7, false, [(.tmp 2, false, 0)], k99⟩
def c100 : FnCode := ⟨16, false, [(.tmp 4, false, 0)], k100⟩
def c101 : FnCode := ⟨63, false, [(.tmp 2, false, 0), (.tmp 3, false, 0)], k101⟩
def c103 : FnCode := ⟨15, false, [(.tmp 6, false, 0)], k103⟩
def c104 : FnCode := ⟨36, false, [(.tmp 4, false, 0)], k104⟩
def c105 : FnCode := ⟨4, true, [(.tmp 2, false, 0)], k105⟩
def c106 : FnCode := ⟨42, true, [(.tmp 4, false, 0)], k106⟩
def c107 : FnCode := ⟨9, false, [(.tmp 3, false, 0)], k107⟩
def c108 : FnCode := ⟨65, false, [(.tmp 4, false, 0), (.tmp 5, false, 0), (.tmp 6, false, 0), (.tmp 7, false, 0)], k108⟩
def c109 : FnCode := ⟨12, false, [(.tmp 2, false, 0)], k109⟩
def c110 : FnCode := ⟨31, true, [(.cell 2 90, true, 2)], k110⟩
def c111 : FnCode := ⟨27, true, [], k111⟩
def c112 : FnCode := ⟨58, true, [], k112⟩
def c113 : FnCode := ⟨69, false, [(.tmp 4, false, 0), (.tmp 5, false, 0), (.tmp 6, false, 0)], k113⟩
def c114 : FnCode := ⟨30, false, [(.tmp 6, false, 0)], k114⟩
def c116 : FnCode := ⟨89, true, [(.tmp 2, false, 0)], k116⟩
def c117 : FnCode := ⟨19, true, [(.tmp 4, false, 0)], k117⟩
def c122 : FnCode := ⟨7, true, [(.tmp 2, false, 0)], k122⟩
def c123 : FnCode := ⟨19, false, [(.tmp 4, false, 0)], k123⟩
def c124 : FnCode := ⟨13, false, [(.tmp 3, false, 0)], k124⟩
def c125 : FnCode := ⟨19, false, [(.tmp 4, false, 0)], k125⟩
def c126 : FnCode := ⟨6, false, [(.tmp 2, false, 0)], k126⟩
def c138 : FnCode := ⟨21, true, [], k138⟩
def c139 : FnCode := ⟨30, false, [(.tmp 2, false, 0)], k139⟩
def c140 : FnCode := ⟨54, false, [(.tmp 4, false, 0), (.tmp 5, false, 0)], k140⟩
def c141 : FnCode := ⟨48, true, [(.tmp 4, false, 0)], k141⟩
def c142 : FnCode := ⟨69, false, [(.tmp 4, false, 0)], k142⟩
def c143 : FnCode := ⟨19, false, [(.tmp 4, false, 0)], k143⟩
def c144 : FnCode := ⟨28, false, [(.tmp 5, false, 0)], k144⟩
def c145 : FnCode := ⟨33, false, [(.tmp 4, false, 0)], k145⟩
def c146 : FnCode := ⟨19, false, [], k146⟩
def c147 : FnCode := ⟨21, false, [(.tmp 4, false, 0), (.tmp 5, false, 0), (.tmp 6, false, 0)], k147⟩
def c148 : FnCode := ⟨11, true, [], k148⟩
def c149 : FnCode := ⟨61, true, [(.tmp 2, false, 0)], k149⟩
def c168 : FnCode := ⟨18, true, [], k168⟩
def c169 : FnCode := ⟨14, false, [(.tmp 2, false, 0)], k169⟩
def c170 : FnCode := ⟨17, false, [(.tmp 4, false, 0)], k170⟩
def c171 : FnCode := ⟨6, false, [(.tmp 2, false, 0)], k171⟩
def c172 : FnCode := ⟨30, false, [(.tmp 4, false, 0), (.tmp 5, false, 0)], k172⟩
def c173 : FnCode := ⟨134, true, [], k173⟩
def c174 : FnCode := ⟨8, false, [(.tmp 2, false, 0)], k174⟩
def c192 : FnCode := ⟨17, false, [(.tmp 4, false, 0), (.tmp 5, false, 0)], k192⟩
def c193 : FnCode := ⟨51, false, [(.tmp 4, false, 0), (.tmp 5, false, 0)], k193⟩
def c194 : FnCode := ⟨49, true, [], k194⟩
def c195 : FnCode := ⟨56, true, [], k195⟩
def c196 : FnCode := ⟨65, true, [], k196⟩
def c197 : FnCode := ⟨57, true, [(.tmp 6, false, 0), (.tmp 7, false, 0)], k197⟩
def c198 : FnCode := ⟨32, true, [], k198⟩
def c199 : FnCode := ⟨133, true, [(.tmp 6, false, 0)], k199⟩
def c200 : FnCode := ⟨84, true, [(.tmp 8, false, 0)], k200⟩
def c201 : FnCode := ⟨168, true, [(.tmp 8, false, 0), (.tmp 9, false, 0)], k201⟩
def c202 : FnCode := ⟨19, false, [(.tmp 2, false, 0)], k202⟩
def c203 : FnCode := ⟨25, false, [(.tmp 2, false, 0)], k203⟩
def c213 : FnCode := ⟨76, true, [], k213⟩
def c214 : FnCode := ⟨7, false, [(.tmp 2, false, 0)], k214⟩
def c215 : FnCode := ⟨33, true, [(.tmp 2, false, 0)], k215⟩
def c216 : FnCode := ⟨15, true, [(.tmp 6, false, 0)], k216⟩
def c217 : FnCode := ⟨36, true, [(.tmp 10, false, 0)], k217⟩
def c221 : FnCode := ⟨28, true, [(.tmp 8, false, 0), (.tmp 9, false, 0)], k221⟩
def codes : List (Nat × FnCode) := [(5, c5), (9, c9), (10, c10), (11, c11), (13, c13), (18, c18), (19, c19), (20, c20), (21, c21), (22, c22), (23, c23), (38, c38), (39, c39), (40, c40), (42, c42), (43, c43), (44, c44), (45, c45), (46, c46), (47, c47), (48, c48), (49, c49), (50, c50), (51, c51), (52, c52), (53, c53), (54, c54), (56, c56), (60, c60), (61, c61), (62, c62), (63, c63), (67, c67), (68, c68), (69, c69), (70, c70), (71, c71), (72, c72), (73, c73), (74, c74), (75, c75), (76, c76), (77, c77), (78, c78), (79, c79), (80, c80), (98, c98), (99, c99), (100, c100), (101, c101), (103, c103), (104, c104), (105, c105), (106, c106), (107, c107), (108, c108), (109, c109), (110, c110), (111, c111), (112, c112), (113, c113), (114, c114), (116, c116), (117, c117), (122, c122), (123, c123), (124, c124), (125, c125), (126, c126), (138, c138), (139, c139), (140, c140), (141, c141), (142, c142), (143, c143), (144, c144), (145, c145), (146, c146), (147, c147), (148, c148), (149, c149), (168, c168), (169, c169), (170, c170), (171, c171), (172, c172), (173, c173), (174, c174), (192, c192), (193, c193), (194, c194), (195, c195), (196, c196), (197, c197), (198, c198), (199, c199), (200, c200), (201, c201), (202, c202), (203, c203), (213, c213), (214, c214), (215, c215), (216, c216), (217, c217), (221, c221)]
def codeAt (f : Nat) : Option FnCode := (bif Nat.blt f 106 then (bif Nat.blt f 54 then (bif Nat.blt f 40 then (bif Nat.blt f 19 then (bif Nat.blt f 11 then (bif Nat.blt f 9 then (bif Nat.beq f 5 then some c5 else none) else (bif Nat.blt f 10 then (bif Nat.beq f 9 then some c9 else none) else (bif Nat.beq f 10 then some c10 else none))) else (bif Nat.blt f 13 then (bif Nat.beq f 11 then some c11 else none) else (bif Nat.blt f 18 then (bif Nat.beq f 13 then some c13 else none) else (bif Nat.beq f 18 then some c18 else none)))) else (bif Nat.blt f 22 then (bif Nat.blt f 20 then (bif Nat.beq f 19 then some c19 else none) else (bif Nat.blt f 21 then (bif Nat.beq f 20 then some c20 else none) else (bif Nat.beq f 21 then some c21 else none))) else (bif Nat.blt f 38 then (bif Nat.blt f 23 then (bif Nat.beq f 22 then some c22 else none) else (bif Nat.beq f 23 then some c23 else none)) else (bif Nat.blt f 39 then (bif Nat.beq f 38 then some c38 else none) else (bif Nat.beq f 39 then some c39 else none))))) else (bif Nat.blt f 47 then (bif Nat.blt f 44 then (bif Nat.blt f 42 then (bif Nat.beq f 40 then some c40 else none) else (bif Nat.blt f 43 then (bif Nat.beq f 42 then some c42 else none) else (bif Nat.beq f 43 then some c43 else none))) else (bif Nat.blt f 45 then (bif Nat.beq f 44 then some c44 else none) else (bif Nat.blt f 46 then (bif Nat.beq f 45 then some c45 else none) else (bif Nat.beq f 46 then some c46 else none)))) else (bif Nat.blt f 50 then (bif Nat.blt f 48 then (bif Nat.beq f 47 then some c47 else none) else (bif Nat.blt f 49 then (bif Nat.beq f 48 then some c48 else none) else (bif Nat.beq f 49 then some c49 else none))) else (bif Nat.blt f 52 then (bif Nat.blt f 51 then (bif Nat.beq f 50 then some c50 else none) else (bif Nat.beq f 51 then some c51 else none)) else (bif Nat.blt f 53 then (bif Nat.beq f 52 then some c52 else none) else (bif Nat.beq f 53 then some c53 else none)))))) else (bif Nat.blt f 74 then (bif Nat.blt f 67 then (bif Nat.blt f 61 then (bif Nat.blt f 56 then (bif Nat.beq f 54 then some c54 else none) else (bif Nat.blt f 60 then (bif Nat.beq f 56 then some c56 else none) else (bif Nat.beq f 60 then some c60 else none))) else (bif Nat.blt f 62 then (bif Nat.beq f 61 then some c61 else none) else (bif Nat.blt f 63 then (bif Nat.beq f 62 then some c62 else none) else (bif Nat.beq f 63 then some c63 else none)))) else (bif Nat.blt f 70 then (bif Nat.blt f 68 then (bif Nat.beq f 67 then some c67 else none) else (bif Nat.blt f 69 then (bif Nat.beq f 68 then some c68 else none) else (bif Nat.beq f 69 then some c69 else none))) else (bif Nat.blt f 72 then (bif Nat.blt f 71 then (bif Nat.beq f 70 then some c70 else none) else (bif Nat.beq f 71 then some c71 else none)) else (bif Nat.blt f 73 then (bif Nat.beq f 72 then some c72 else none) else (bif Nat.beq f 73 then some c73 else none))))) else (bif Nat.blt f 98 then (bif Nat.blt f 77 then (bif Nat.blt f 75 then (bif Nat.beq f 74 then some c74 else none) else (bif Nat.blt f 76 then (bif Nat.beq f 75 then some c75 else none) else (bif Nat.beq f 76 then some c76 else none))) else (bif Nat.blt f 79 then (bif Nat.blt f 78 then (bif Nat.beq f 77 then some c77 else none) else (bif Nat.beq f 78 then some c78 else none)) else (bif Nat.blt f 80 then (bif Nat.beq f 79 then some c79 else none) else (bif Nat.beq f 80 then some c80 else none)))) else (bif Nat.blt f 101 then (bif Nat.blt f 99 then (bif Nat.beq f 98 then some c98 else none) else (bif Nat.blt f 100 then (bif Nat.beq f 99 then some c99 else none) else (bif Nat.beq f 100 then some c100 else none))) else (bif Nat.blt f 104 then (bif Nat.blt f 103 then (bif Nat.beq f 101 then some c101 else none) else (bif Nat.beq f 103 then some c103 else none)) else (bif Nat.blt f 105 then (bif Nat.beq f 104 then some c104 else none) else (bif Nat.beq f 105 then some c105 else none))))))) else (bif Nat.blt f 148 then (bif Nat.blt f 124 then (bif Nat.blt f 112 then (bif Nat.blt f 109 then (bif Nat.blt f 107 then (bif Nat.beq f 106 then some c106 else none) else (bif Nat.blt f 108 then (bif Nat.beq f 107 then some c107 else none) else (bif Nat.beq f 108 then some c108 else none))) else (bif Nat.blt f 110 then (bif Nat.beq f 109 then some c109 else none) else (bif Nat.blt f 111 then (bif Nat.beq f 110 then some c110 else none) else (bif Nat.beq f 111 then some c111 else none)))) else (bif Nat.blt f 116 then (bif Nat.blt f 113 then (bif Nat.beq f 112 then some c112 else none) else (bif Nat.blt f 114 then (bif Nat.beq f 113 then some c113 else none) else (bif Nat.beq f 114 then some c114 else none))) else (bif Nat.blt f 122 then (bif Nat.blt f 117 then (bif Nat.beq f 116 then some c116 else none) else (bif Nat.beq f 117 then some c117 else none)) else (bif Nat.blt f 123 then (bif Nat.beq f 122 then some c122 else none) else (bif Nat.beq f 123 then some c123 else none))))) else (bif Nat.blt f 141 then (bif Nat.blt f 138 then (bif Nat.blt f 125 then (bif Nat.beq f 124 then some c124 else none) else (bif Nat.blt f 126 then (bif Nat.beq f 125 then some c125 else none) else (bif Nat.beq f 126 then some c126 else none))) else (bif Nat.blt f 139 then (bif Nat.beq f 138 then some c138 else none) else (bif Nat.blt f 140 then (bif Nat.beq f 139 then some c139 else none) else (bif Nat.beq f 140 then some c140 else none)))) else (bif Nat.blt f 144 then (bif Nat.blt f 142 then (bif Nat.beq f 141 then some c141 else none) else (bif Nat.blt f 143 then (bif Nat.beq f 142 then some c142 else none) else (bif Nat.beq f 143 then some c143 else none))) else (bif Nat.blt f 146 then (bif Nat.blt f 145 then (bif Nat.beq f 144 then some c144 else none) else (bif Nat.beq f 145 then some c145 else none)) else (bif Nat.blt f 147 then (bif Nat.beq f 146 then some c146 else none) else (bif Nat.beq f 147 then some c147 else none)))))) else (bif Nat.blt f 196 then (bif Nat.blt f 172 then (bif Nat.blt f 169 then (bif Nat.blt f 149 then (bif Nat.beq f 148 then some c148 else none) else (bif Nat.blt f 168 then (bif Nat.beq f 149 then some c149 else none) else (bif Nat.beq f 168 then some c168 else none))) else (bif Nat.blt f 170 then (bif Nat.beq f 169 then some c169 else none) else (bif Nat.blt f 171 then (bif Nat.beq f 170 then some c170 else none) else (bif Nat.beq f 171 then some c171 else none)))) else (bif Nat.blt f 192 then (bif Nat.blt f 173 then (bif Nat.beq f 172 then some c172 else none) else (bif Nat.blt f 174 then (bif Nat.beq f 173 then some c173 else none) else (bif Nat.beq f 174 then some c174 else none))) else (bif Nat.blt f 194 then (bif Nat.blt f 193 then (bif Nat.beq f 192 then some c192 else none) else (bif Nat.beq f 193 then some c193 else none)) else (bif Nat.blt f 195 then (bif Nat.beq f 194 then some c194 else none) else (bif Nat.beq f 195 then some c195 else none))))) else (bif Nat.blt f 203 then (bif Nat.blt f 199 then (bif Nat.blt f 197 then (bif Nat.beq f 196 then some c196 else none) else (bif Nat.blt f 198 then (bif Nat.beq f 197 then some c197 else none) else (bif Nat.beq f 198 then some c198 else none))) else (bif Nat.blt f 201 then (bif Nat.blt f 200 then (bif Nat.beq f 199 then some c199 else none) else (bif Nat.beq f 200 then some c200 else none)) else (bif Nat.blt f 202 then (bif Nat.beq f 201 then some c201 else none) else (bif Nat.beq f 202 then some c202 else none)))) else (bif Nat.blt f 215 then (bif Nat.blt f 213 then (bif Nat.beq f 203 then some c203 else none) else (bif Nat.blt f 214 then (bif Nat.beq f 213 then some c213 else none) else (bif Nat.beq f 214 then some c214 else none))) else (bif Nat.blt f 217 then (bif Nat.blt f 216 then (bif Nat.beq f 215 then some c215 else none) else (bif Nat.beq f 216 then some c216 else none)) else (bif Nat.blt f 221 then (bif Nat.beq f 217 then some c217 else none) else (bif Nat.beq f 221 then some c221 else none))))))))
theorem kc5 : codeOf Tryz.prog 5 = some (64, [(.tmp 4, false, 0)], k5) := by kernel_rfl
theorem kc9 : codeOf Tryz.prog 9 = some (22, [(.tmp 2, false, 0)], k9) := by kernel_rfl
theorem kc10 : codeOf Tryz.prog 10 = some (96, [(.tmp 0, false, 0)], k10) := by kernel_rfl
theorem kc11 : codeOf Tryz.prog 11 = some (26, [(.tmp 4, false, 0), (.tmp 5, false, 0)], k11) := by kernel_rfl
theorem kc13 : codeOf Tryz.prog 13 = some (11, [(.tmp 2, false, 0)], k13) := by kernel_rfl
theorem kc18 : codeOf Tryz.prog 18 = some (48, [(.tmp 4, false, 0)], k18) := by kernel_rfl
theorem kc19 : codeOf Tryz.prog 19 = some (45, [(.tmp 4, false, 0)], k19) := by kernel_rfl
theorem kc20 : codeOf Tryz.prog 20 = some (8, [(.tmp 2, false, 0)], k20) := by kernel_rfl
theorem kc21 : codeOf Tryz.prog 21 = some (9, [(.tmp 4, false, 0)], k21) := by kernel_rfl
theorem kc22 : codeOf Tryz.prog 22 = some (12, [(.tmp 4, false, 0)], k22) := by kernel_rfl
theorem kc23 : codeOf Tryz.prog 23 = some (49, [(.tmp 4, false, 0)], k23) := by kernel_rfl
theorem kc38 : codeOf Tryz.prog 38 = some (25, [(.tmp 2, false, 0)], k38) := by kernel_rfl
theorem kc39 : codeOf Tryz.prog 39 = some (81, [(.cell 4 65, true, 2)], k39) := by kernel_rfl
theorem kc40 : codeOf Tryz.prog 40 = some (3, [(.tmp 2, false, 0)], k40) := by kernel_rfl
theorem kc42 : codeOf Tryz.prog 42 = some (40, [(.tmp 2, false, 0)], k42) := by kernel_rfl
theorem kc43 : codeOf Tryz.prog 43 = some (21, [(.tmp 2, false, 0)], k43) := by kernel_rfl
theorem kc44 : codeOf Tryz.prog 44 = some (6, [(.tmp 0, false, 0)], k44) := by kernel_rfl
theorem kc45 : codeOf Tryz.prog 45 = some (45, [(.tmp 6, false, 0), (.tmp 7, false, 0), (.tmp 8, false, 0)], k45) := by kernel_rfl
theorem kc46 : codeOf Tryz.prog 46 = some (45, [(.tmp 6, false, 0), (.tmp 7, false, 0), (.tmp 8, false, 0)], k46) := by kernel_rfl
theorem kc47 : codeOf Tryz.prog 47 = some (36, [(.tmp 2, false, 0), (.tmp 3, false, 0)], k47) := by kernel_rfl
theorem kc48 : codeOf Tryz.prog 48 = some (26, [(.tmp 4, false, 0)], k48) := by kernel_rfl
theorem kc49 : codeOf Tryz.prog 49 = some (26, [(.tmp 4, false, 0)], k49) := by kernel_rfl
theorem kc50 : codeOf Tryz.prog 50 = some (26, [(.tmp 4, false, 0)], k50) := by kernel_rfl
theorem kc51 : codeOf Tryz.prog 51 = some (27, [(.tmp 4, false, 0)], k51) := by kernel_rfl
theorem kc52 : codeOf Tryz.prog 52 = some (41, [(.cell 2 90, true, 2), (.tmp 3, false, 0)], k52) := by kernel_rfl
theorem kc53 : codeOf Tryz.prog 53 = some (15, [(.cell 2 95, true, 4)], k53) := by kernel_rfl
theorem kc54 : codeOf Tryz.prog 54 = some (71, [(.tmp 4, false, 0)], k54) := by kernel_rfl
theorem kc56 : codeOf Tryz.prog 56 = some (101, [(.cell 2 88, true, 2), (.tmp 3, false, 0)], k56) := by kernel_rfl
theorem kc60 : codeOf Tryz.prog 60 = some (49, [(.cell 6 106, true, 4), (.tmp 7, false, 0)], k60) := by kernel_rfl
theorem kc61 : codeOf Tryz.prog 61 = some (17, [(.tmp 6, false, 0)], k61) := by kernel_rfl
theorem kc62 : codeOf Tryz.prog 62 = some (15, [(.tmp 6, false, 0)], k62) := by kernel_rfl
theorem kc63 : codeOf Tryz.prog 63 = some (15, [], k63) := by kernel_rfl
theorem kc67 : codeOf Tryz.prog 67 = some (26, [(.tmp 2, false, 0)], k67) := by kernel_rfl
theorem kc68 : codeOf Tryz.prog 68 = some (9, [(.tmp 4, false, 0)], k68) := by kernel_rfl
theorem kc69 : codeOf Tryz.prog 69 = some (19, [(.tmp 2, false, 0)], k69) := by kernel_rfl
theorem kc70 : codeOf Tryz.prog 70 = some (8, [(.tmp 2, false, 0)], k70) := by kernel_rfl
theorem kc71 : codeOf Tryz.prog 71 = some (9, [(.tmp 4, false, 0)], k71) := by kernel_rfl
theorem kc72 : codeOf Tryz.prog 72 = some (15, [(.tmp 4, false, 0)], k72) := by kernel_rfl
theorem kc73 : codeOf Tryz.prog 73 = some (20, [(.tmp 2, false, 0)], k73) := by kernel_rfl
theorem kc74 : codeOf Tryz.prog 74 = some (24, [(.tmp 4, false, 0)], k74) := by kernel_rfl
theorem kc75 : codeOf Tryz.prog 75 = some (18, [(.tmp 2, false, 0)], k75) := by kernel_rfl
theorem kc76 : codeOf Tryz.prog 76 = some (23, [(.tmp 4, false, 0)], k76) := by kernel_rfl
theorem kc77 : codeOf Tryz.prog 77 = some (19, [(.tmp 4, false, 0)], k77) := by kernel_rfl
theorem kc78 : codeOf Tryz.prog 78 = some (42, [(.tmp 4, false, 0)], k78) := by kernel_rfl
theorem kc79 : codeOf Tryz.prog 79 = some (8, [(.tmp 2, false, 0)], k79) := by kernel_rfl
theorem kc80 : codeOf Tryz.prog 80 = some (8, [(.tmp 3, false, 0)], k80) := by kernel_rfl
theorem kc98 : codeOf Tryz.prog 98 = some (42, [(.tmp 2, false, 0)], k98) := by kernel_rfl
theorem kc99 : codeOf Tryz.prog 99 = some (7, [(.tmp 2, false, 0)], k99) := by kernel_rfl
theorem kc100 : codeOf Tryz.prog 100 = some (16, [(.tmp 4, false, 0)], k100) := by kernel_rfl
theorem kc101 : codeOf Tryz.prog 101 = some (63, [(.tmp 2, false, 0), (.tmp 3, false, 0)], k101) := by kernel_rfl
theorem kc103 : codeOf Tryz.prog 103 = some (15, [(.tmp 6, false, 0)], k103) := by kernel_rfl
theorem kc104 : codeOf Tryz.prog 104 = some (36, [(.tmp 4, false, 0)], k104) := by kernel_rfl
theorem kc105 : codeOf Tryz.prog 105 = some (4, [(.tmp 2, false, 0)], k105) := by kernel_rfl
theorem kc106 : codeOf Tryz.prog 106 = some (42, [(.tmp 4, false, 0)], k106) := by kernel_rfl
theorem kc107 : codeOf Tryz.prog 107 = some (9, [(.tmp 3, false, 0)], k107) := by kernel_rfl
theorem kc108 : codeOf Tryz.prog 108 = some (65, [(.tmp 4, false, 0), (.tmp 5, false, 0), (.tmp 6, false, 0), (.tmp 7, false, 0)], k108) := by kernel_rfl
theorem kc109 : codeOf Tryz.prog 109 = some (12, [(.tmp 2, false, 0)], k109) := by kernel_rfl
theorem kc110 : codeOf Tryz.prog 110 = some (31, [(.cell 2 90, true, 2)], k110) := by kernel_rfl
theorem kc111 : codeOf Tryz.prog 111 = some (27, [], k111) := by kernel_rfl
theorem kc112 : codeOf Tryz.prog 112 = some (58, [], k112) := by kernel_rfl
theorem kc113 : codeOf Tryz.prog 113 = some (69, [(.tmp 4, false, 0), (.tmp 5, false, 0), (.tmp 6, false, 0)], k113) := by kernel_rfl
theorem kc114 : codeOf Tryz.prog 114 = some (30, [(.tmp 6, false, 0)], k114) := by kernel_rfl
theorem kc116 : codeOf Tryz.prog 116 = some (89, [(.tmp 2, false, 0)], k116) := by kernel_rfl
theorem kc117 : codeOf Tryz.prog 117 = some (19, [(.tmp 4, false, 0)], k117) := by kernel_rfl
theorem kc122 : codeOf Tryz.prog 122 = some (7, [(.tmp 2, false, 0)], k122) := by kernel_rfl
theorem kc123 : codeOf Tryz.prog 123 = some (19, [(.tmp 4, false, 0)], k123) := by kernel_rfl
theorem kc124 : codeOf Tryz.prog 124 = some (13, [(.tmp 3, false, 0)], k124) := by kernel_rfl
theorem kc125 : codeOf Tryz.prog 125 = some (19, [(.tmp 4, false, 0)], k125) := by kernel_rfl
theorem kc126 : codeOf Tryz.prog 126 = some (6, [(.tmp 2, false, 0)], k126) := by kernel_rfl
theorem kc138 : codeOf Tryz.prog 138 = some (21, [], k138) := by kernel_rfl
theorem kc139 : codeOf Tryz.prog 139 = some (30, [(.tmp 2, false, 0)], k139) := by kernel_rfl
theorem kc140 : codeOf Tryz.prog 140 = some (54, [(.tmp 4, false, 0), (.tmp 5, false, 0)], k140) := by kernel_rfl
theorem kc141 : codeOf Tryz.prog 141 = some (48, [(.tmp 4, false, 0)], k141) := by kernel_rfl
theorem kc142 : codeOf Tryz.prog 142 = some (69, [(.tmp 4, false, 0)], k142) := by kernel_rfl
theorem kc143 : codeOf Tryz.prog 143 = some (19, [(.tmp 4, false, 0)], k143) := by kernel_rfl
theorem kc144 : codeOf Tryz.prog 144 = some (28, [(.tmp 5, false, 0)], k144) := by kernel_rfl
theorem kc145 : codeOf Tryz.prog 145 = some (33, [(.tmp 4, false, 0)], k145) := by kernel_rfl
theorem kc146 : codeOf Tryz.prog 146 = some (19, [], k146) := by kernel_rfl
theorem kc147 : codeOf Tryz.prog 147 = some (21, [(.tmp 4, false, 0), (.tmp 5, false, 0), (.tmp 6, false, 0)], k147) := by kernel_rfl
theorem kc148 : codeOf Tryz.prog 148 = some (11, [], k148) := by kernel_rfl
theorem kc149 : codeOf Tryz.prog 149 = some (61, [(.tmp 2, false, 0)], k149) := by kernel_rfl
theorem kc168 : codeOf Tryz.prog 168 = some (18, [], k168) := by kernel_rfl
theorem kc169 : codeOf Tryz.prog 169 = some (14, [(.tmp 2, false, 0)], k169) := by kernel_rfl
theorem kc170 : codeOf Tryz.prog 170 = some (17, [(.tmp 4, false, 0)], k170) := by kernel_rfl
theorem kc171 : codeOf Tryz.prog 171 = some (6, [(.tmp 2, false, 0)], k171) := by kernel_rfl
theorem kc172 : codeOf Tryz.prog 172 = some (30, [(.tmp 4, false, 0), (.tmp 5, false, 0)], k172) := by kernel_rfl
theorem kc173 : codeOf Tryz.prog 173 = some (134, [], k173) := by kernel_rfl
theorem kc174 : codeOf Tryz.prog 174 = some (8, [(.tmp 2, false, 0)], k174) := by kernel_rfl
theorem kc192 : codeOf Tryz.prog 192 = some (17, [(.tmp 4, false, 0), (.tmp 5, false, 0)], k192) := by kernel_rfl
theorem kc193 : codeOf Tryz.prog 193 = some (51, [(.tmp 4, false, 0), (.tmp 5, false, 0)], k193) := by kernel_rfl
theorem kc194 : codeOf Tryz.prog 194 = some (49, [], k194) := by kernel_rfl
theorem kc195 : codeOf Tryz.prog 195 = some (56, [], k195) := by kernel_rfl
theorem kc196 : codeOf Tryz.prog 196 = some (65, [], k196) := by kernel_rfl
theorem kc197 : codeOf Tryz.prog 197 = some (57, [(.tmp 6, false, 0), (.tmp 7, false, 0)], k197) := by kernel_rfl
theorem kc198 : codeOf Tryz.prog 198 = some (32, [], k198) := by kernel_rfl
theorem kc199 : codeOf Tryz.prog 199 = some (133, [(.tmp 6, false, 0)], k199) := by kernel_rfl
theorem kc200 : codeOf Tryz.prog 200 = some (84, [(.tmp 8, false, 0)], k200) := by kernel_rfl
theorem kc201 : codeOf Tryz.prog 201 = some (168, [(.tmp 8, false, 0), (.tmp 9, false, 0)], k201) := by kernel_rfl
theorem kc202 : codeOf Tryz.prog 202 = some (19, [(.tmp 2, false, 0)], k202) := by kernel_rfl
theorem kc203 : codeOf Tryz.prog 203 = some (25, [(.tmp 2, false, 0)], k203) := by kernel_rfl
theorem kc213 : codeOf Tryz.prog 213 = some (76, [], k213) := by kernel_rfl
theorem kc214 : codeOf Tryz.prog 214 = some (7, [(.tmp 2, false, 0)], k214) := by kernel_rfl
theorem kc215 : codeOf Tryz.prog 215 = some (33, [(.tmp 2, false, 0)], k215) := by kernel_rfl
theorem kc216 : codeOf Tryz.prog 216 = some (15, [(.tmp 6, false, 0)], k216) := by kernel_rfl
theorem kc217 : codeOf Tryz.prog 217 = some (36, [(.tmp 10, false, 0)], k217) := by kernel_rfl
theorem kc221 : codeOf Tryz.prog 221 = some (28, [(.tmp 8, false, 0), (.tmp 9, false, 0)], k221) := by kernel_rfl
end Go.Proofs.YtgbkdjlekfjkfaaGreatDoor
