/- The table of small code of this seat, and the table of places by which package math/bits finds the lowest bit. -/
import Derived.Test.YtlfknfknlcgfcaaGreatDoorCode
import Derived.Test.YtlfknfknlcgfcaaGreatDoorEmZ
import Derived.Test.YtlfknfknlcgfcaaGreatDoorEmW
import Derived.KernelRfl
namespace Go.Proofs.YtlfknfknlcgfcaaGreatDoor
open Go Go.Em
set_option maxRecDepth 100000
def bruN : List Nat := [0, 1, 56, 2, 57, 49, 28, 3, 61, 58, 42, 50, 38, 29, 17, 4, 62, 47, 59, 36, 45, 43, 51, 22, 53, 39, 33, 30, 24, 18, 12, 5, 63, 55, 48, 27, 60, 41, 37, 16, 46, 35, 44, 21, 52, 32, 23, 11, 54, 26, 40, 15, 34, 20, 31, 10, 25, 14, 19, 9, 13, 8, 7, 6]
def bruD : List D := bruN.map fun (n : Nat) => D.val (.int .u8 n)
def yrsD : List D := [D.val (.int .i64 (-1000000000)), D.val (.int .i64 1000000000)]
def pg : Pg := ⟨codeAt, fun g => bif Nat.beq g 1 then some bruD else bif Nat.beq g 0 then some yrsD else none⟩
end Go.Proofs.YtlfknfknlcgfcaaGreatDoor
