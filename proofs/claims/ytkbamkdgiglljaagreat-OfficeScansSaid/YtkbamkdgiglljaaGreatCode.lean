/- The small code of the functions of this program, as its own reader reads them: it is the program. -/
import Derived.Test.YtkbamkdgiglljaaGreatProg
import Derived.Test.YtkbamkdgiglljaaGreatCodeB
namespace Go.Proofs.YtkbamkdgiglljaaGreat
open Go Go.Em
set_option maxRecDepth 100000
def c3 : FnCode := ⟨89, false, [(.tmp 4, false, 0)], k3⟩
def c4 : FnCode := ⟨153, false, [(.tmp 6, false, 0)], k4⟩
def c5 : FnCode := ⟨56, false, [(.tmp 6, false, 0)], k5⟩
def c6 : FnCode := ⟨50, false, [(.tmp 4, false, 0)], k6⟩
def c7 : FnCode := ⟨55, false, [(.tmp 2, false, 0), (.tmp 3, false, 0)], k7⟩
def c8 : FnCode := ⟨57, false, [(.tmp 2, false, 0), (.tmp 3, false, 0)], k8⟩
def c9 : FnCode := ⟨16, false, [(.tmp 2, false, 0), (.tmp 3, false, 0)], k9⟩
def c10 : FnCode := ⟨16, false, [(.tmp 2, false, 0), (.tmp 3, false, 0)], k10⟩
def c11 : FnCode := ⟨50, false, [(.cell 2 25, true, 8), (.tmp 3, false, 0)], k11⟩
def c12 : FnCode := ⟨55, false, [(.cell 2 25, true, 8), (.tmp 3, false, 0)], k12⟩
def c13 : FnCode := ⟨24, false, [(.tmp 2, false, 0)], k13⟩
def c14 : FnCode := ⟨62, false, [(.tmp 2, false, 0)], k14⟩
def c15 : FnCode := ⟨96, false, [(.tmp 0, false, 0)], k15⟩
def c16 : FnCode := ⟨28, false, [(.tmp 2, false, 0)], k16⟩
def c17 : FnCode := ⟨33, false, [(.tmp 2, false, 0)], k17⟩
def c18 : FnCode := ⟨12, false, [(.tmp 4, false, 0)], k18⟩
def c19 : FnCode := ⟨26, false, [(.tmp 2, false, 0), (.tmp 3, false, 0)], k19⟩
def c20 : FnCode := ⟨26, false, [(.tmp 2, false, 0), (.tmp 3, false, 0)], k20⟩
def c21 : FnCode := ⟨26, false, [(.tmp 4, false, 0)], k21⟩
def c22 : FnCode := ⟨27, false, [(.cell 4 45, true, 1), (.tmp 5, false, 0)], k22⟩
def c23 : FnCode := ⟨43, false, [(.cell 4 45, true, 1), (.tmp 5, false, 0)], k23⟩
def c24 : FnCode := ⟨10, false, [(.tmp 4, false, 0)], k24⟩
def c25 : FnCode := ⟨38, false, [(.tmp 2, false, 0)], k25⟩
def c26 : FnCode := ⟨38, false, [(.tmp 2, false, 0)], k26⟩
def c27 : FnCode := ⟨34, false, [(.tmp 4, false, 0)], k27⟩
def c28 : FnCode := ⟨36, false, [(.tmp 4, false, 0)], k28⟩
def c29 : FnCode := ⟨26, false, [(.tmp 4, false, 0)], k29⟩
def c30 : FnCode := ⟨45, false, [(.tmp 2, false, 0)], k30⟩
def c31 : FnCode := ⟨33, false, [(.tmp 2, false, 0)], k31⟩
def c32 : FnCode := ⟨35, false, [(.cell 4 45, true, 1), (.tmp 5, false, 0)], k32⟩
def c33 : FnCode := ⟨56, false, [(.cell 4 45, true, 1), (.tmp 5, false, 0)], k33⟩
def c34 : FnCode := ⟨15, true, [], k34⟩
def c35 : FnCode := ⟨18, true, [], k35⟩
def c36 : FnCode := ⟨15, true, [(.tmp 2, false, 0)], k36⟩
def c37 : FnCode := ⟨23, false, [(.tmp 2, false, 0)], k37⟩
def c38 : FnCode := ⟨15, false, [(.tmp 2, false, 0)], k38⟩
def c39 : FnCode := ⟨15, false, [(.tmp 6, false, 0)], k39⟩
def c40 : FnCode := ⟨20, false, [(.tmp 2, false, 0)], k40⟩
def c41 : FnCode := ⟨12, false, [(.cell 2 23, true, 2)], k41⟩
def c42 : FnCode := ⟨25, false, [(.tmp 2, false, 0)], k42⟩
def c43 : FnCode := ⟨11, false, [(.cell 4 25, true, 8), (.tmp 5, false, 0)], k43⟩
def c44 : FnCode := ⟨11, false, [(.tmp 2, false, 0)], k44⟩
def c45 : FnCode := ⟨34, false, [(.tmp 2, false, 0)], k45⟩
def c46 : FnCode := ⟨11, false, [(.tmp 2, false, 0)], k46⟩
def c47 : FnCode := ⟨15, false, [(.tmp 6, false, 0)], k47⟩
def c48 : FnCode := ⟨5, false, [(.tmp 2, false, 0)], k48⟩
def c49 : FnCode := ⟨17, false, [(.tmp 0, false, 0)], k49⟩
def c50 : FnCode := ⟨42, false, [(.cell 6 23, true, 2), (.tmp 7, false, 0)], k50⟩
def c51 : FnCode := ⟨12, false, [(.cell 0 74, true, 4), (.cell 1 76, true, 3)], k51⟩
def c52 : FnCode := ⟨66, false, [(.cell 6 74, true, 4), (.cell 7 76, true, 3), (.tmp 8, false, 0)], k52⟩
def c53 : FnCode := ⟨26, false, [(.tmp 4, false, 0)], k53⟩
def c54 : FnCode := ⟨32, false, [(.tmp 4, false, 0)], k54⟩
def c55 : FnCode := ⟨42, false, [(.cell 2 25, true, 8), (.tmp 3, false, 0)], k55⟩
def c56 : FnCode := ⟨54, false, [(.cell 2 25, true, 8), (.tmp 3, false, 0)], k56⟩
def c57 : FnCode := ⟨21, false, [(.tmp 4, false, 0)], k57⟩
def c58 : FnCode := ⟨8, false, [(.cell 2 45, true, 1)], k58⟩
def c59 : FnCode := ⟨42, false, [(.cell 4 45, true, 1)], k59⟩
def c60 : FnCode := ⟨17, false, [(.tmp 4, false, 0)], k60⟩
def c61 : FnCode := ⟨24, false, [(.tmp 4, false, 0)], k61⟩
def c62 : FnCode := ⟨5, false, [(.tmp 2, false, 0)], k62⟩
def c63 : FnCode := ⟨34, false, [(.tmp 2, false, 0), (.tmp 3, false, 0)], k63⟩
def c64 : FnCode := ⟨6, false, [(.tmp 2, false, 0)], k64⟩
def c65 : FnCode := ⟨19, false, [(.tmp 4, false, 0)], k65⟩
def c66 : FnCode := ⟨18, false, [(.tmp 4, false, 0)], k66⟩
def c67 : FnCode := ⟨10, false, [(.tmp 4, false, 0)], k67⟩
def c68 : FnCode := ⟨26, false, [(.tmp 4, false, 0)], k68⟩
def c69 : FnCode := ⟨18, false, [(.cell 4 25, true, 8)], k69⟩
def c70 : FnCode := ⟨36, true, [(.tmp 2, false, 0)], k70⟩
def c71 : FnCode := ⟨19, false, [(.tmp 2, false, 0)], k71⟩
def c72 : FnCode := ⟨2, false, [(.tmp 0, false, 0)], k72⟩
def c73 : FnCode := ⟨52, false, [(.tmp 4, false, 0)], k73⟩
def c74 : FnCode := ⟨10, false, [(.tmp 4, false, 0)], k74⟩
def c75 : FnCode := ⟨23, true, [(.cell 2 74, true, 4)], k75⟩
def c76 : FnCode := ⟨10, false, [(.tmp 2, false, 0)], k76⟩
def c77 : FnCode := ⟨8, false, [(.tmp 4, false, 0)], k77⟩
def c78 : FnCode := ⟨18, false, [(.tmp 2, false, 0)], k78⟩
def c79 : FnCode := ⟨20, false, [(.tmp 4, false, 0)], k79⟩
def c80 : FnCode := ⟨36, true, [(.tmp 2, false, 0)], k80⟩
def c81 : FnCode := ⟨14, true, [], k81⟩
def c82 : FnCode := ⟨10, false, [(.tmp 4, false, 0)], k82⟩
def c83 : FnCode := ⟨61, true, [(.tmp 2, false, 0)], k83⟩
def c84 : FnCode := ⟨11, false, [(.tmp 4, false, 0)], k84⟩
def c85 : FnCode := ⟨19, false, [(.tmp 4, false, 0)], k85⟩
def c86 : FnCode := ⟨23, false, [(.tmp 4, false, 0)], k86⟩
def c87 : FnCode := ⟨12, false, [(.tmp 6, false, 0)], k87⟩
def c88 : FnCode := ⟨8, false, [(.tmp 3, false, 0)], k88⟩
def c89 : FnCode := ⟨33, false, [(.cell 4 25, true, 8)], k89⟩
def c90 : FnCode := ⟨17, false, [(.tmp 4, false, 0)], k90⟩
def c91 : FnCode := ⟨27, true, [(.tmp 4, false, 0)], k91⟩
def c92 : FnCode := ⟨71, false, [(.cell 2 74, true, 4), (.cell 3 76, true, 3), (.tmp 4, false, 0)], k92⟩
def c93 : FnCode := ⟨26, false, [(.tmp 4, false, 0)], k93⟩
def c94 : FnCode := ⟨8, true, [(.tmp 2, false, 0)], k94⟩
def c95 : FnCode := ⟨6, false, [(.tmp 4, false, 0)], k95⟩
def c96 : FnCode := ⟨12, true, [], k96⟩
def c97 : FnCode := ⟨6, false, [(.tmp 2, false, 0)], k97⟩
def c98 : FnCode := ⟨27, true, [(.tmp 4, false, 0)], k98⟩
def c99 : FnCode := ⟨148, true, [], k99⟩
def c100 : FnCode := ⟨8, false, [(.tmp 2, false, 0)], k100⟩
def c101 : FnCode := ⟨28, false, [(.tmp 5, false, 0)], k101⟩
def c102 : FnCode := ⟨9, false, [(.tmp 4, false, 0)], k102⟩
def c103 : FnCode := ⟨71, false, [(.cell 2 124, true, 4), (.tmp 3, false, 0)], k103⟩
def c104 : FnCode := ⟨13, false, [(.cell 4 74, true, 4)], k104⟩
def c105 : FnCode := ⟨53, true, [], k105⟩
def c106 : FnCode := ⟨60, true, [], k106⟩
def c107 : FnCode := ⟨67, true, [], k107⟩
def c108 : FnCode := ⟨63, true, [(.tmp 8, false, 0), (.tmp 9, false, 0)], k108⟩
def c109 : FnCode := ⟨34, true, [], k109⟩
def c110 : FnCode := ⟨141, true, [(.tmp 8, false, 0)], k110⟩
def c111 : FnCode := ⟨90, true, [(.tmp 10, false, 0)], k111⟩
def c112 : FnCode := ⟨178, true, [(.tmp 10, false, 0), (.tmp 11, false, 0)], k112⟩
def c113 : FnCode := ⟨19, false, [(.tmp 2, false, 0)], k113⟩
def c114 : FnCode := ⟨25, false, [(.tmp 2, false, 0)], k114⟩
def c115 : FnCode := ⟨19, false, [(.tmp 4, false, 0)], k115⟩
def c116 : FnCode := ⟨18, false, [(.tmp 4, false, 0)], k116⟩
def c117 : FnCode := ⟨82, true, [], k117⟩
def c118 : FnCode := ⟨7, false, [(.tmp 2, false, 0)], k118⟩
def c119 : FnCode := ⟨33, true, [(.tmp 2, false, 0)], k119⟩
def c120 : FnCode := ⟨18, true, [(.tmp 8, false, 0)], k120⟩
def c121 : FnCode := ⟨41, true, [(.tmp 12, false, 0)], k121⟩
def c122 : FnCode := ⟨10, false, [(.tmp 4, false, 0)], k122⟩
def c123 : FnCode := ⟨32, true, [(.tmp 10, false, 0), (.tmp 11, false, 0)], k123⟩
def codes : List (Nat × FnCode) := [(3, c3), (4, c4), (5, c5), (6, c6), (7, c7), (8, c8), (9, c9), (10, c10), (11, c11), (12, c12), (13, c13), (14, c14), (15, c15), (16, c16), (17, c17), (18, c18), (19, c19), (20, c20), (21, c21), (22, c22), (23, c23), (24, c24), (25, c25), (26, c26), (27, c27), (28, c28), (29, c29), (30, c30), (31, c31), (32, c32), (33, c33), (34, c34), (35, c35), (36, c36), (37, c37), (38, c38), (39, c39), (40, c40), (41, c41), (42, c42), (43, c43), (44, c44), (45, c45), (46, c46), (47, c47), (48, c48), (49, c49), (50, c50), (51, c51), (52, c52), (53, c53), (54, c54), (55, c55), (56, c56), (57, c57), (58, c58), (59, c59), (60, c60), (61, c61), (62, c62), (63, c63), (64, c64), (65, c65), (66, c66), (67, c67), (68, c68), (69, c69), (70, c70), (71, c71), (72, c72), (73, c73), (74, c74), (75, c75), (76, c76), (77, c77), (78, c78), (79, c79), (80, c80), (81, c81), (82, c82), (83, c83), (84, c84), (85, c85), (86, c86), (87, c87), (88, c88), (89, c89), (90, c90), (91, c91), (92, c92), (93, c93), (94, c94), (95, c95), (96, c96), (97, c97), (98, c98), (99, c99), (100, c100), (101, c101), (102, c102), (103, c103), (104, c104), (105, c105), (106, c106), (107, c107), (108, c108), (109, c109), (110, c110), (111, c111), (112, c112), (113, c113), (114, c114), (115, c115), (116, c116), (117, c117), (118, c118), (119, c119), (120, c120), (121, c121), (122, c122), (123, c123)]
def codeAt (f : Nat) : Option FnCode := (bif Nat.blt f 63 then (bif Nat.blt f 33 then (bif Nat.blt f 18 then (bif Nat.blt f 10 then (bif Nat.blt f 6 then (bif Nat.blt f 4 then (bif Nat.beq f 3 then some c3 else none) else (bif Nat.blt f 5 then (bif Nat.beq f 4 then some c4 else none) else (bif Nat.beq f 5 then some c5 else none))) else (bif Nat.blt f 8 then (bif Nat.blt f 7 then (bif Nat.beq f 6 then some c6 else none) else (bif Nat.beq f 7 then some c7 else none)) else (bif Nat.blt f 9 then (bif Nat.beq f 8 then some c8 else none) else (bif Nat.beq f 9 then some c9 else none)))) else (bif Nat.blt f 14 then (bif Nat.blt f 12 then (bif Nat.blt f 11 then (bif Nat.beq f 10 then some c10 else none) else (bif Nat.beq f 11 then some c11 else none)) else (bif Nat.blt f 13 then (bif Nat.beq f 12 then some c12 else none) else (bif Nat.beq f 13 then some c13 else none))) else (bif Nat.blt f 16 then (bif Nat.blt f 15 then (bif Nat.beq f 14 then some c14 else none) else (bif Nat.beq f 15 then some c15 else none)) else (bif Nat.blt f 17 then (bif Nat.beq f 16 then some c16 else none) else (bif Nat.beq f 17 then some c17 else none))))) else (bif Nat.blt f 25 then (bif Nat.blt f 21 then (bif Nat.blt f 19 then (bif Nat.beq f 18 then some c18 else none) else (bif Nat.blt f 20 then (bif Nat.beq f 19 then some c19 else none) else (bif Nat.beq f 20 then some c20 else none))) else (bif Nat.blt f 23 then (bif Nat.blt f 22 then (bif Nat.beq f 21 then some c21 else none) else (bif Nat.beq f 22 then some c22 else none)) else (bif Nat.blt f 24 then (bif Nat.beq f 23 then some c23 else none) else (bif Nat.beq f 24 then some c24 else none)))) else (bif Nat.blt f 29 then (bif Nat.blt f 27 then (bif Nat.blt f 26 then (bif Nat.beq f 25 then some c25 else none) else (bif Nat.beq f 26 then some c26 else none)) else (bif Nat.blt f 28 then (bif Nat.beq f 27 then some c27 else none) else (bif Nat.beq f 28 then some c28 else none))) else (bif Nat.blt f 31 then (bif Nat.blt f 30 then (bif Nat.beq f 29 then some c29 else none) else (bif Nat.beq f 30 then some c30 else none)) else (bif Nat.blt f 32 then (bif Nat.beq f 31 then some c31 else none) else (bif Nat.beq f 32 then some c32 else none)))))) else (bif Nat.blt f 48 then (bif Nat.blt f 40 then (bif Nat.blt f 36 then (bif Nat.blt f 34 then (bif Nat.beq f 33 then some c33 else none) else (bif Nat.blt f 35 then (bif Nat.beq f 34 then some c34 else none) else (bif Nat.beq f 35 then some c35 else none))) else (bif Nat.blt f 38 then (bif Nat.blt f 37 then (bif Nat.beq f 36 then some c36 else none) else (bif Nat.beq f 37 then some c37 else none)) else (bif Nat.blt f 39 then (bif Nat.beq f 38 then some c38 else none) else (bif Nat.beq f 39 then some c39 else none)))) else (bif Nat.blt f 44 then (bif Nat.blt f 42 then (bif Nat.blt f 41 then (bif Nat.beq f 40 then some c40 else none) else (bif Nat.beq f 41 then some c41 else none)) else (bif Nat.blt f 43 then (bif Nat.beq f 42 then some c42 else none) else (bif Nat.beq f 43 then some c43 else none))) else (bif Nat.blt f 46 then (bif Nat.blt f 45 then (bif Nat.beq f 44 then some c44 else none) else (bif Nat.beq f 45 then some c45 else none)) else (bif Nat.blt f 47 then (bif Nat.beq f 46 then some c46 else none) else (bif Nat.beq f 47 then some c47 else none))))) else (bif Nat.blt f 55 then (bif Nat.blt f 51 then (bif Nat.blt f 49 then (bif Nat.beq f 48 then some c48 else none) else (bif Nat.blt f 50 then (bif Nat.beq f 49 then some c49 else none) else (bif Nat.beq f 50 then some c50 else none))) else (bif Nat.blt f 53 then (bif Nat.blt f 52 then (bif Nat.beq f 51 then some c51 else none) else (bif Nat.beq f 52 then some c52 else none)) else (bif Nat.blt f 54 then (bif Nat.beq f 53 then some c53 else none) else (bif Nat.beq f 54 then some c54 else none)))) else (bif Nat.blt f 59 then (bif Nat.blt f 57 then (bif Nat.blt f 56 then (bif Nat.beq f 55 then some c55 else none) else (bif Nat.beq f 56 then some c56 else none)) else (bif Nat.blt f 58 then (bif Nat.beq f 57 then some c57 else none) else (bif Nat.beq f 58 then some c58 else none))) else (bif Nat.blt f 61 then (bif Nat.blt f 60 then (bif Nat.beq f 59 then some c59 else none) else (bif Nat.beq f 60 then some c60 else none)) else (bif Nat.blt f 62 then (bif Nat.beq f 61 then some c61 else none) else (bif Nat.beq f 62 then some c62 else none))))))) else (bif Nat.blt f 93 then (bif Nat.blt f 78 then (bif Nat.blt f 70 then (bif Nat.blt f 66 then (bif Nat.blt f 64 then (bif Nat.beq f 63 then some c63 else none) else (bif Nat.blt f 65 then (bif Nat.beq f 64 then some c64 else none) else (bif Nat.beq f 65 then some c65 else none))) else (bif Nat.blt f 68 then (bif Nat.blt f 67 then (bif Nat.beq f 66 then some c66 else none) else (bif Nat.beq f 67 then some c67 else none)) else (bif Nat.blt f 69 then (bif Nat.beq f 68 then some c68 else none) else (bif Nat.beq f 69 then some c69 else none)))) else (bif Nat.blt f 74 then (bif Nat.blt f 72 then (bif Nat.blt f 71 then (bif Nat.beq f 70 then some c70 else none) else (bif Nat.beq f 71 then some c71 else none)) else (bif Nat.blt f 73 then (bif Nat.beq f 72 then some c72 else none) else (bif Nat.beq f 73 then some c73 else none))) else (bif Nat.blt f 76 then (bif Nat.blt f 75 then (bif Nat.beq f 74 then some c74 else none) else (bif Nat.beq f 75 then some c75 else none)) else (bif Nat.blt f 77 then (bif Nat.beq f 76 then some c76 else none) else (bif Nat.beq f 77 then some c77 else none))))) else (bif Nat.blt f 85 then (bif Nat.blt f 81 then (bif Nat.blt f 79 then (bif Nat.beq f 78 then some c78 else none) else (bif Nat.blt f 80 then (bif Nat.beq f 79 then some c79 else none) else (bif Nat.beq f 80 then some c80 else none))) else (bif Nat.blt f 83 then (bif Nat.blt f 82 then (bif Nat.beq f 81 then some c81 else none) else (bif Nat.beq f 82 then some c82 else none)) else (bif Nat.blt f 84 then (bif Nat.beq f 83 then some c83 else none) else (bif Nat.beq f 84 then some c84 else none)))) else (bif Nat.blt f 89 then (bif Nat.blt f 87 then (bif Nat.blt f 86 then (bif Nat.beq f 85 then some c85 else none) else (bif Nat.beq f 86 then some c86 else none)) else (bif Nat.blt f 88 then (bif Nat.beq f 87 then some c87 else none) else (bif Nat.beq f 88 then some c88 else none))) else (bif Nat.blt f 91 then (bif Nat.blt f 90 then (bif Nat.beq f 89 then some c89 else none) else (bif Nat.beq f 90 then some c90 else none)) else (bif Nat.blt f 92 then (bif Nat.beq f 91 then some c91 else none) else (bif Nat.beq f 92 then some c92 else none)))))) else (bif Nat.blt f 108 then (bif Nat.blt f 100 then (bif Nat.blt f 96 then (bif Nat.blt f 94 then (bif Nat.beq f 93 then some c93 else none) else (bif Nat.blt f 95 then (bif Nat.beq f 94 then some c94 else none) else (bif Nat.beq f 95 then some c95 else none))) else (bif Nat.blt f 98 then (bif Nat.blt f 97 then (bif Nat.beq f 96 then some c96 else none) else (bif Nat.beq f 97 then some c97 else none)) else (bif Nat.blt f 99 then (bif Nat.beq f 98 then some c98 else none) else (bif Nat.beq f 99 then some c99 else none)))) else (bif Nat.blt f 104 then (bif Nat.blt f 102 then (bif Nat.blt f 101 then (bif Nat.beq f 100 then some c100 else none) else (bif Nat.beq f 101 then some c101 else none)) else (bif Nat.blt f 103 then (bif Nat.beq f 102 then some c102 else none) else (bif Nat.beq f 103 then some c103 else none))) else (bif Nat.blt f 106 then (bif Nat.blt f 105 then (bif Nat.beq f 104 then some c104 else none) else (bif Nat.beq f 105 then some c105 else none)) else (bif Nat.blt f 107 then (bif Nat.beq f 106 then some c106 else none) else (bif Nat.beq f 107 then some c107 else none))))) else (bif Nat.blt f 116 then (bif Nat.blt f 112 then (bif Nat.blt f 110 then (bif Nat.blt f 109 then (bif Nat.beq f 108 then some c108 else none) else (bif Nat.beq f 109 then some c109 else none)) else (bif Nat.blt f 111 then (bif Nat.beq f 110 then some c110 else none) else (bif Nat.beq f 111 then some c111 else none))) else (bif Nat.blt f 114 then (bif Nat.blt f 113 then (bif Nat.beq f 112 then some c112 else none) else (bif Nat.beq f 113 then some c113 else none)) else (bif Nat.blt f 115 then (bif Nat.beq f 114 then some c114 else none) else (bif Nat.beq f 115 then some c115 else none)))) else (bif Nat.blt f 120 then (bif Nat.blt f 118 then (bif Nat.blt f 117 then (bif Nat.beq f 116 then some c116 else none) else (bif Nat.beq f 117 then some c117 else none)) else (bif Nat.blt f 119 then (bif Nat.beq f 118 then some c118 else none) else (bif Nat.beq f 119 then some c119 else none))) else (bif Nat.blt f 122 then (bif Nat.blt f 121 then (bif Nat.beq f 120 then some c120 else none) else (bif Nat.beq f 121 then some c121 else none)) else (bif Nat.blt f 123 then (bif Nat.beq f 122 then some c122 else none) else (bif Nat.beq f 123 then some c123 else none))))))))
theorem kc3 : codeOf Tryz.prog 3 = some (89, [(.tmp 4, false, 0)], k3) := by kernel_rfl
theorem kc4 : codeOf Tryz.prog 4 = some (153, [(.tmp 6, false, 0)], k4) := by kernel_rfl
theorem kc5 : codeOf Tryz.prog 5 = some (56, [(.tmp 6, false, 0)], k5) := by kernel_rfl
theorem kc6 : codeOf Tryz.prog 6 = some (50, [(.tmp 4, false, 0)], k6) := by kernel_rfl
theorem kc7 : codeOf Tryz.prog 7 = some (55, [(.tmp 2, false, 0), (.tmp 3, false, 0)], k7) := by kernel_rfl
theorem kc8 : codeOf Tryz.prog 8 = some (57, [(.tmp 2, false, 0), (.tmp 3, false, 0)], k8) := by kernel_rfl
theorem kc9 : codeOf Tryz.prog 9 = some (16, [(.tmp 2, false, 0), (.tmp 3, false, 0)], k9) := by kernel_rfl
theorem kc10 : codeOf Tryz.prog 10 = some (16, [(.tmp 2, false, 0), (.tmp 3, false, 0)], k10) := by kernel_rfl
theorem kc11 : codeOf Tryz.prog 11 = some (50, [(.cell 2 25, true, 8), (.tmp 3, false, 0)], k11) := by kernel_rfl
theorem kc12 : codeOf Tryz.prog 12 = some (55, [(.cell 2 25, true, 8), (.tmp 3, false, 0)], k12) := by kernel_rfl
theorem kc13 : codeOf Tryz.prog 13 = some (24, [(.tmp 2, false, 0)], k13) := by kernel_rfl
theorem kc14 : codeOf Tryz.prog 14 = some (62, [(.tmp 2, false, 0)], k14) := by kernel_rfl
theorem kc15 : codeOf Tryz.prog 15 = some (96, [(.tmp 0, false, 0)], k15) := by kernel_rfl
theorem kc16 : codeOf Tryz.prog 16 = some (28, [(.tmp 2, false, 0)], k16) := by kernel_rfl
theorem kc17 : codeOf Tryz.prog 17 = some (33, [(.tmp 2, false, 0)], k17) := by kernel_rfl
theorem kc18 : codeOf Tryz.prog 18 = some (12, [(.tmp 4, false, 0)], k18) := by kernel_rfl
theorem kc19 : codeOf Tryz.prog 19 = some (26, [(.tmp 2, false, 0), (.tmp 3, false, 0)], k19) := by kernel_rfl
theorem kc20 : codeOf Tryz.prog 20 = some (26, [(.tmp 2, false, 0), (.tmp 3, false, 0)], k20) := by kernel_rfl
theorem kc21 : codeOf Tryz.prog 21 = some (26, [(.tmp 4, false, 0)], k21) := by kernel_rfl
theorem kc22 : codeOf Tryz.prog 22 = some (27, [(.cell 4 45, true, 1), (.tmp 5, false, 0)], k22) := by kernel_rfl
theorem kc23 : codeOf Tryz.prog 23 = some (43, [(.cell 4 45, true, 1), (.tmp 5, false, 0)], k23) := by kernel_rfl
theorem kc24 : codeOf Tryz.prog 24 = some (10, [(.tmp 4, false, 0)], k24) := by kernel_rfl
theorem kc25 : codeOf Tryz.prog 25 = some (38, [(.tmp 2, false, 0)], k25) := by kernel_rfl
theorem kc26 : codeOf Tryz.prog 26 = some (38, [(.tmp 2, false, 0)], k26) := by kernel_rfl
theorem kc27 : codeOf Tryz.prog 27 = some (34, [(.tmp 4, false, 0)], k27) := by kernel_rfl
theorem kc28 : codeOf Tryz.prog 28 = some (36, [(.tmp 4, false, 0)], k28) := by kernel_rfl
theorem kc29 : codeOf Tryz.prog 29 = some (26, [(.tmp 4, false, 0)], k29) := by kernel_rfl
theorem kc30 : codeOf Tryz.prog 30 = some (45, [(.tmp 2, false, 0)], k30) := by kernel_rfl
theorem kc31 : codeOf Tryz.prog 31 = some (33, [(.tmp 2, false, 0)], k31) := by kernel_rfl
theorem kc32 : codeOf Tryz.prog 32 = some (35, [(.cell 4 45, true, 1), (.tmp 5, false, 0)], k32) := by kernel_rfl
theorem kc33 : codeOf Tryz.prog 33 = some (56, [(.cell 4 45, true, 1), (.tmp 5, false, 0)], k33) := by kernel_rfl
theorem kc34 : codeOf Tryz.prog 34 = some (15, [], k34) := by kernel_rfl
theorem kc35 : codeOf Tryz.prog 35 = some (18, [], k35) := by kernel_rfl
theorem kc36 : codeOf Tryz.prog 36 = some (15, [(.tmp 2, false, 0)], k36) := by kernel_rfl
theorem kc37 : codeOf Tryz.prog 37 = some (23, [(.tmp 2, false, 0)], k37) := by kernel_rfl
theorem kc38 : codeOf Tryz.prog 38 = some (15, [(.tmp 2, false, 0)], k38) := by kernel_rfl
theorem kc39 : codeOf Tryz.prog 39 = some (15, [(.tmp 6, false, 0)], k39) := by kernel_rfl
theorem kc40 : codeOf Tryz.prog 40 = some (20, [(.tmp 2, false, 0)], k40) := by kernel_rfl
theorem kc41 : codeOf Tryz.prog 41 = some (12, [(.cell 2 23, true, 2)], k41) := by kernel_rfl
theorem kc42 : codeOf Tryz.prog 42 = some (25, [(.tmp 2, false, 0)], k42) := by kernel_rfl
theorem kc43 : codeOf Tryz.prog 43 = some (11, [(.cell 4 25, true, 8), (.tmp 5, false, 0)], k43) := by kernel_rfl
theorem kc44 : codeOf Tryz.prog 44 = some (11, [(.tmp 2, false, 0)], k44) := by kernel_rfl
theorem kc45 : codeOf Tryz.prog 45 = some (34, [(.tmp 2, false, 0)], k45) := by kernel_rfl
theorem kc46 : codeOf Tryz.prog 46 = some (11, [(.tmp 2, false, 0)], k46) := by kernel_rfl
theorem kc47 : codeOf Tryz.prog 47 = some (15, [(.tmp 6, false, 0)], k47) := by kernel_rfl
theorem kc48 : codeOf Tryz.prog 48 = some (5, [(.tmp 2, false, 0)], k48) := by kernel_rfl
theorem kc49 : codeOf Tryz.prog 49 = some (17, [(.tmp 0, false, 0)], k49) := by kernel_rfl
theorem kc50 : codeOf Tryz.prog 50 = some (42, [(.cell 6 23, true, 2), (.tmp 7, false, 0)], k50) := by kernel_rfl
theorem kc51 : codeOf Tryz.prog 51 = some (12, [(.cell 0 74, true, 4), (.cell 1 76, true, 3)], k51) := by kernel_rfl
theorem kc52 : codeOf Tryz.prog 52 = some (66, [(.cell 6 74, true, 4), (.cell 7 76, true, 3), (.tmp 8, false, 0)], k52) := by kernel_rfl
theorem kc53 : codeOf Tryz.prog 53 = some (26, [(.tmp 4, false, 0)], k53) := by kernel_rfl
theorem kc54 : codeOf Tryz.prog 54 = some (32, [(.tmp 4, false, 0)], k54) := by kernel_rfl
theorem kc55 : codeOf Tryz.prog 55 = some (42, [(.cell 2 25, true, 8), (.tmp 3, false, 0)], k55) := by kernel_rfl
theorem kc56 : codeOf Tryz.prog 56 = some (54, [(.cell 2 25, true, 8), (.tmp 3, false, 0)], k56) := by kernel_rfl
theorem kc57 : codeOf Tryz.prog 57 = some (21, [(.tmp 4, false, 0)], k57) := by kernel_rfl
theorem kc58 : codeOf Tryz.prog 58 = some (8, [(.cell 2 45, true, 1)], k58) := by kernel_rfl
theorem kc59 : codeOf Tryz.prog 59 = some (42, [(.cell 4 45, true, 1)], k59) := by kernel_rfl
theorem kc60 : codeOf Tryz.prog 60 = some (17, [(.tmp 4, false, 0)], k60) := by kernel_rfl
theorem kc61 : codeOf Tryz.prog 61 = some (24, [(.tmp 4, false, 0)], k61) := by kernel_rfl
theorem kc62 : codeOf Tryz.prog 62 = some (5, [(.tmp 2, false, 0)], k62) := by kernel_rfl
theorem kc63 : codeOf Tryz.prog 63 = some (34, [(.tmp 2, false, 0), (.tmp 3, false, 0)], k63) := by kernel_rfl
theorem kc64 : codeOf Tryz.prog 64 = some (6, [(.tmp 2, false, 0)], k64) := by kernel_rfl
theorem kc65 : codeOf Tryz.prog 65 = some (19, [(.tmp 4, false, 0)], k65) := by kernel_rfl
theorem kc66 : codeOf Tryz.prog 66 = some (18, [(.tmp 4, false, 0)], k66) := by kernel_rfl
theorem kc67 : codeOf Tryz.prog 67 = some (10, [(.tmp 4, false, 0)], k67) := by kernel_rfl
theorem kc68 : codeOf Tryz.prog 68 = some (26, [(.tmp 4, false, 0)], k68) := by kernel_rfl
theorem kc69 : codeOf Tryz.prog 69 = some (18, [(.cell 4 25, true, 8)], k69) := by kernel_rfl
theorem kc70 : codeOf Tryz.prog 70 = some (36, [(.tmp 2, false, 0)], k70) := by kernel_rfl
theorem kc71 : codeOf Tryz.prog 71 = some (19, [(.tmp 2, false, 0)], k71) := by kernel_rfl
theorem kc72 : codeOf Tryz.prog 72 = some (2, [(.tmp 0, false, 0)], k72) := by kernel_rfl
theorem kc73 : codeOf Tryz.prog 73 = some (52, [(.tmp 4, false, 0)], k73) := by kernel_rfl
theorem kc74 : codeOf Tryz.prog 74 = some (10, [(.tmp 4, false, 0)], k74) := by kernel_rfl
theorem kc75 : codeOf Tryz.prog 75 = some (23, [(.cell 2 74, true, 4)], k75) := by kernel_rfl
theorem kc76 : codeOf Tryz.prog 76 = some (10, [(.tmp 2, false, 0)], k76) := by kernel_rfl
theorem kc77 : codeOf Tryz.prog 77 = some (8, [(.tmp 4, false, 0)], k77) := by kernel_rfl
theorem kc78 : codeOf Tryz.prog 78 = some (18, [(.tmp 2, false, 0)], k78) := by kernel_rfl
theorem kc79 : codeOf Tryz.prog 79 = some (20, [(.tmp 4, false, 0)], k79) := by kernel_rfl
theorem kc80 : codeOf Tryz.prog 80 = some (36, [(.tmp 2, false, 0)], k80) := by kernel_rfl
theorem kc81 : codeOf Tryz.prog 81 = some (14, [], k81) := by kernel_rfl
theorem kc82 : codeOf Tryz.prog 82 = some (10, [(.tmp 4, false, 0)], k82) := by kernel_rfl
theorem kc83 : codeOf Tryz.prog 83 = some (61, [(.tmp 2, false, 0)], k83) := by kernel_rfl
theorem kc84 : codeOf Tryz.prog 84 = some (11, [(.tmp 4, false, 0)], k84) := by kernel_rfl
theorem kc85 : codeOf Tryz.prog 85 = some (19, [(.tmp 4, false, 0)], k85) := by kernel_rfl
theorem kc86 : codeOf Tryz.prog 86 = some (23, [(.tmp 4, false, 0)], k86) := by kernel_rfl
theorem kc87 : codeOf Tryz.prog 87 = some (12, [(.tmp 6, false, 0)], k87) := by kernel_rfl
theorem kc88 : codeOf Tryz.prog 88 = some (8, [(.tmp 3, false, 0)], k88) := by kernel_rfl
theorem kc89 : codeOf Tryz.prog 89 = some (33, [(.cell 4 25, true, 8)], k89) := by kernel_rfl
theorem kc90 : codeOf Tryz.prog 90 = some (17, [(.tmp 4, false, 0)], k90) := by kernel_rfl
theorem kc91 : codeOf Tryz.prog 91 = some (27, [(.tmp 4, false, 0)], k91) := by kernel_rfl
theorem kc92 : codeOf Tryz.prog 92 = some (71, [(.cell 2 74, true, 4), (.cell 3 76, true, 3), (.tmp 4, false, 0)], k92) := by kernel_rfl
theorem kc93 : codeOf Tryz.prog 93 = some (26, [(.tmp 4, false, 0)], k93) := by kernel_rfl
theorem kc94 : codeOf Tryz.prog 94 = some (8, [(.tmp 2, false, 0)], k94) := by kernel_rfl
theorem kc95 : codeOf Tryz.prog 95 = some (6, [(.tmp 4, false, 0)], k95) := by kernel_rfl
theorem kc96 : codeOf Tryz.prog 96 = some (12, [], k96) := by kernel_rfl
theorem kc97 : codeOf Tryz.prog 97 = some (6, [(.tmp 2, false, 0)], k97) := by kernel_rfl
theorem kc98 : codeOf Tryz.prog 98 = some (27, [(.tmp 4, false, 0)], k98) := by kernel_rfl
theorem kc99 : codeOf Tryz.prog 99 = some (148, [], k99) := by kernel_rfl
theorem kc100 : codeOf Tryz.prog 100 = some (8, [(.tmp 2, false, 0)], k100) := by kernel_rfl
theorem kc101 : codeOf Tryz.prog 101 = some (28, [(.tmp 5, false, 0)], k101) := by kernel_rfl
theorem kc102 : codeOf Tryz.prog 102 = some (9, [(.tmp 4, false, 0)], k102) := by kernel_rfl
theorem kc103 : codeOf Tryz.prog 103 = some (71, [(.cell 2 124, true, 4), (.tmp 3, false, 0)], k103) := by kernel_rfl
theorem kc104 : codeOf Tryz.prog 104 = some (13, [(.cell 4 74, true, 4)], k104) := by kernel_rfl
theorem kc105 : codeOf Tryz.prog 105 = some (53, [], k105) := by kernel_rfl
theorem kc106 : codeOf Tryz.prog 106 = some (60, [], k106) := by kernel_rfl
theorem kc107 : codeOf Tryz.prog 107 = some (67, [], k107) := by kernel_rfl
theorem kc108 : codeOf Tryz.prog 108 = some (63, [(.tmp 8, false, 0), (.tmp 9, false, 0)], k108) := by kernel_rfl
theorem kc109 : codeOf Tryz.prog 109 = some (34, [], k109) := by kernel_rfl
theorem kc110 : codeOf Tryz.prog 110 = some (141, [(.tmp 8, false, 0)], k110) := by kernel_rfl
theorem kc111 : codeOf Tryz.prog 111 = some (90, [(.tmp 10, false, 0)], k111) := by kernel_rfl
theorem kc112 : codeOf Tryz.prog 112 = some (178, [(.tmp 10, false, 0), (.tmp 11, false, 0)], k112) := by kernel_rfl
theorem kc113 : codeOf Tryz.prog 113 = some (19, [(.tmp 2, false, 0)], k113) := by kernel_rfl
theorem kc114 : codeOf Tryz.prog 114 = some (25, [(.tmp 2, false, 0)], k114) := by kernel_rfl
theorem kc115 : codeOf Tryz.prog 115 = some (19, [(.tmp 4, false, 0)], k115) := by kernel_rfl
theorem kc116 : codeOf Tryz.prog 116 = some (18, [(.tmp 4, false, 0)], k116) := by kernel_rfl
theorem kc117 : codeOf Tryz.prog 117 = some (82, [], k117) := by kernel_rfl
theorem kc118 : codeOf Tryz.prog 118 = some (7, [(.tmp 2, false, 0)], k118) := by kernel_rfl
theorem kc119 : codeOf Tryz.prog 119 = some (33, [(.tmp 2, false, 0)], k119) := by kernel_rfl
theorem kc120 : codeOf Tryz.prog 120 = some (18, [(.tmp 8, false, 0)], k120) := by kernel_rfl
theorem kc121 : codeOf Tryz.prog 121 = some (41, [(.tmp 12, false, 0)], k121) := by kernel_rfl
theorem kc122 : codeOf Tryz.prog 122 = some (10, [(.tmp 4, false, 0)], k122) := by kernel_rfl
theorem kc123 : codeOf Tryz.prog 123 = some (32, [(.tmp 10, false, 0), (.tmp 11, false, 0)], k123) := by kernel_rfl
end Go.Proofs.YtkbamkdgiglljaaGreat
