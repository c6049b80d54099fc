/- Words of 64 bits, as values. -/
import Derived.Test.YtfemldhlanoakaaGreatDoorEmZ
import Derived.Test.YtfemldhlanoakaaGreatDoorEmSets
namespace Go.Em
open Go
abbrev wordD (w : Nat) : D := .val (.int .u64 (w : Int))
theorem wrap_u64 {n : Int} (h1 : 0 ≤ n) (h2 : n < 18446744073709551616) : IntKind.u64.wrap n = n := by
  have e1 : (2 : Int) ^ IntKind.u64.bits = 18446744073709551616 := by decide
  simp only [IntKind.wrap, IntKind.signed, e1, Bool.false_and]
  simp
  omega
theorem toNat_of {a : Nat} (ha : a < 2 ^ 64) : (BitVec.ofInt 64 (a : Int)).toNat = a := by
  rw [BitVec.ofInt_natCast, BitVec.toNat_ofNat]; exact Nat.mod_eq_of_lt ha
theorem bin_or64 {a b : Nat} (ha : a < 2 ^ 64) (hb : b < 2 ^ 64) : bin .or (.int .u64 (a : Int)) (.int .u64 (b : Int)) = some (.int .u64 ((a ||| b : Nat) : Int)) := by
  show some (Value.int .u64 (IntKind.u64.wrap ((BitVec.ofInt 64 (a : Int) ||| BitVec.ofInt 64 (b : Int)).toNat : Int))) = _
  rw [BitVec.toNat_or, toNat_of ha, toNat_of hb, wrap_u64 (by omega) (by have := Nat.or_lt_two_pow ha hb; omega)]
theorem bin_and64 {a b : Nat} (ha : a < 2 ^ 64) (hb : b < 2 ^ 64) : bin .and (.int .u64 (a : Int)) (.int .u64 (b : Int)) = some (.int .u64 ((a &&& b : Nat) : Int)) := by
  show some (Value.int .u64 (IntKind.u64.wrap ((BitVec.ofInt 64 (a : Int) &&& BitVec.ofInt 64 (b : Int)).toNat : Int))) = _
  rw [BitVec.toNat_and, toNat_of ha, toNat_of hb, wrap_u64 (by omega) (by have := Nat.and_lt_two_pow a hb; omega)]
theorem bin_shl64 {n : Nat} (hn : n < 64) : bin .shl (.int .u64 1) (.int .i64 (n : Int)) = some (.int .u64 ((2 ^ n : Nat) : Int)) := by
  have h : bin .shl (.int .u64 1) (.int .i64 (n : Int)) = ans (Op.shift .shl .u64 1 .i64 (n : Int)) := rfl
  rw [h]
  unfold Op.shift
  rw [if_neg (by omega)]
  have e : min ((n : Int).toNat) IntKind.u64.bits = n := by
    have : IntKind.u64.bits = 64 := rfl
    rw [this]; omega
  rw [e]
  have e2 : (1 : Int) * 2 ^ n = ((2 ^ n : Nat) : Int) := by simp
  have hlt : 2 ^ n < 2 ^ 64 := Nat.pow_lt_pow_right (by omega) hn
  show some (Value.int .u64 (IntKind.u64.wrap (1 * 2 ^ n))) = _
  rw [e2]
  generalize 2 ^ n = p at hlt ⊢
  rw [wrap_u64 (by omega) (by omega)]
theorem wrap_nat (a : Nat) : IntKind.u64.wrap (a : Int) = ((a % 18446744073709551616 : Nat) : Int) := by
  have e1 : (2 : Int) ^ IntKind.u64.bits = 18446744073709551616 := by decide
  simp only [IntKind.wrap, IntKind.signed, e1, Bool.false_and]
  simp
theorem wrap_neg {w : Nat} (h0 : 0 < w) (h : w < 2 ^ 64) : IntKind.u64.wrap (0 - (w : Int)) = ((2 ^ 64 - w : Nat) : Int) := by
  have e1 : (2 : Int) ^ IntKind.u64.bits = 18446744073709551616 := by decide
  simp only [IntKind.wrap, IntKind.signed, e1, Bool.false_and]
  simp
  omega
theorem bin_shr64 (a : Nat) : bin .shr (.int .u64 (a : Int)) (.int .u64 58) = some (.int .u64 ((a / 288230376151711744 : Nat) : Int)) := by
  have h : bin .shr (.int .u64 (a : Int)) (.int .u64 58) = some (.int .u64 ((a : Int).fdiv (2 ^ 58))) := rfl
  rw [h]
  congr 2
  rw [Int.fdiv_eq_ediv_of_nonneg _ (by omega)]
  simp
end Go.Em
