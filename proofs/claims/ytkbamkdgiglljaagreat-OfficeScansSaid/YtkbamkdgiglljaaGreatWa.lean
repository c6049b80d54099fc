/- Words of 32 bits, bytes, and numbers below them, as values: shifts, or, xor, and. -/
import Derived.Test.YtkbamkdgiglljaaGreatPg
import Derived.Test.YtkbamkdgiglljaaGreatEmBits
import Derived.Laws.Strings
namespace Go.Proofs.YtkbamkdgiglljaaGreat
open Go Go.Em
set_option maxRecDepth 100000
abbrev u4D (n : Nat) : D := .val (.int .u32 (n : Int))
abbrev u1D (n : Nat) : D := .val (.int .u8 (n : Int))
theorem wrap_u32n (a : Nat) : IntKind.u32.wrap (a : Int) = ((a % 4294967296 : Nat) : Int) := by
  have e1 : (2 : Int) ^ IntKind.u32.bits = 4294967296 := by decide
  simp only [IntKind.wrap, IntKind.signed, e1, Bool.false_and]
  simp
theorem wrap_u32 {a : Nat} (h : a < 4294967296) : IntKind.u32.wrap (a : Int) = (a : Int) := by rw [wrap_u32n, Nat.mod_eq_of_lt h]
theorem wrap_u8n (a : Nat) : IntKind.u8.wrap (a : Int) = ((a % 256 : Nat) : Int) := by
  have e1 : (2 : Int) ^ IntKind.u8.bits = 256 := by decide
  simp only [IntKind.wrap, IntKind.signed, e1, Bool.false_and]
  simp
theorem wrap_i64n {a : Nat} (h : a < 9223372036854775808) : IntKind.i64.wrap (a : Int) = (a : Int) := wrap_i64 (by omega) (by omega)
theorem of32 {a : Nat} (ha : a < 4294967296) : (BitVec.ofInt 32 (a : Int)).toNat = a := by
  rw [BitVec.ofInt_natCast, BitVec.toNat_ofNat]; exact Nat.mod_eq_of_lt ha
theorem of64 {a : Nat} (ha : a < 18446744073709551616) : (BitVec.ofInt 64 (a : Int)).toNat = a := by
  rw [BitVec.ofInt_natCast, BitVec.toNat_ofNat]; exact Nat.mod_eq_of_lt ha
theorem bin_or32 {a b : Nat} (ha : a < 4294967296) (hb : b < 4294967296) : bin .or (.int .u32 (a : Int)) (.int .u32 (b : Int)) = some (.int .u32 ((a ||| b : Nat) : Int)) := by
  show some (Value.int .u32 (IntKind.u32.wrap ((BitVec.ofInt 32 (a : Int) ||| BitVec.ofInt 32 (b : Int)).toNat : Int))) = _
  rw [BitVec.toNat_or, of32 ha, of32 hb, wrap_u32 (Nat.or_lt_two_pow (n := 32) ha hb)]
theorem bin_xor32 {a b : Nat} (ha : a < 4294967296) (hb : b < 4294967296) : bin .xor (.int .u32 (a : Int)) (.int .u32 (b : Int)) = some (.int .u32 ((a ^^^ b : Nat) : Int)) := by
  show some (Value.int .u32 (IntKind.u32.wrap ((BitVec.ofInt 32 (a : Int) ^^^ BitVec.ofInt 32 (b : Int)).toNat : Int))) = _
  rw [BitVec.toNat_xor, of32 ha, of32 hb, wrap_u32 (Nat.xor_lt_two_pow (n := 32) ha hb)]
theorem bin_and32 {a : Nat} (ha : a < 4294967296) : bin .and (.int .u32 (a : Int)) (.int .u32 1) = some (.int .u32 ((a % 2 : Nat) : Int)) := by
  have hb : (1 : Nat) < 4294967296 := by omega
  show some (Value.int .u32 (IntKind.u32.wrap ((BitVec.ofInt 32 (a : Int) &&& BitVec.ofInt 32 ((1 : Nat) : Int)).toNat : Int))) = _
  rw [BitVec.toNat_and, of32 ha, of32 hb, Nat.and_one_is_mod, wrap_u32 (by omega)]
theorem bin_or64 {a b : Nat} (ha : a < 4294967296) (hb : b < 4294967296) : bin .or (.int .i64 (a : Int)) (.int .i64 (b : Int)) = some (.int .i64 ((a ||| b : Nat) : Int)) := by
  show some (Value.int .i64 (IntKind.i64.wrap ((BitVec.ofInt 64 (a : Int) ||| BitVec.ofInt 64 (b : Int)).toNat : Int))) = _
  have h := Nat.or_lt_two_pow (n := 32) ha hb
  rw [BitVec.toNat_or, of64 (by omega), of64 (by omega), wrap_i64n (by omega)]
theorem shr_is {k kk : IntKind} {a n : Nat} (hn : n ≤ k.bits) : Op.shift .shr k (a : Int) kk (n : Int) = .pure (.int k ((a / 2 ^ n : Nat) : Int)) := by
  unfold Op.shift
  rw [if_neg (by omega)]
  have e : min ((n : Int).toNat) k.bits = n := by omega
  simp only [e]
  show Sem.pure _ = _
  congr 2
  rw [Int.fdiv_eq_ediv_of_nonneg _ (by exact_mod_cast Nat.zero_le _)]
  norm_cast
theorem bin_shr32 {a n : Nat} (hn : n ≤ 32) : bin .shr (.int .u32 (a : Int)) (.int .i64 (n : Int)) = some (.int .u32 ((a / 2 ^ n : Nat) : Int)) := by
  have h : bin .shr (.int .u32 (a : Int)) (.int .i64 (n : Int)) = ans (Op.shift .shr .u32 (a : Int) .i64 (n : Int)) := rfl
  rw [h, shr_is hn]; rfl
theorem bin_shr32u {a n : Nat} (hn : n ≤ 32) : bin .shr (.int .u32 (a : Int)) (.int .u64 (n : Int)) = some (.int .u32 ((a / 2 ^ n : Nat) : Int)) := by
  have h : bin .shr (.int .u32 (a : Int)) (.int .u64 (n : Int)) = ans (Op.shift .shr .u32 (a : Int) .u64 (n : Int)) := rfl
  rw [h, shr_is hn]; rfl
theorem shl_is {k kk : IntKind} {a n : Nat} (hn : n ≤ k.bits) : Op.shift .shl k (a : Int) kk (n : Int) = .pure (.int k (k.wrap ((a * 2 ^ n : Nat) : Int))) := by
  unfold Op.shift
  rw [if_neg (by omega)]
  have e : min ((n : Int).toNat) k.bits = n := by omega
  simp only [e]
  show Sem.pure _ = _
  congr 3
theorem bin_shl32 {a n : Nat} (hn : n ≤ 32) : bin .shl (.int .u32 (a : Int)) (.int .u64 (n : Int)) = some (.int .u32 ((a * 2 ^ n % 4294967296 : Nat) : Int)) := by
  have h : bin .shl (.int .u32 (a : Int)) (.int .u64 (n : Int)) = ans (Op.shift .shl .u32 (a : Int) .u64 (n : Int)) := rfl
  rw [h, shl_is hn, wrap_u32n]; rfl
theorem bin_shl64 {a n : Nat} (hn : n ≤ 64) (h : a * 2 ^ n < 9223372036854775808) : bin .shl (.int .i64 (a : Int)) (.int .u64 (n : Int)) = some (.int .i64 ((a * 2 ^ n : Nat) : Int)) := by
  have h1 : bin .shl (.int .i64 (a : Int)) (.int .u64 (n : Int)) = ans (Op.shift .shl .i64 (a : Int) .u64 (n : Int)) := rfl
  rw [h1, shl_is hn, wrap_i64n h]; rfl
theorem or_add {a b n : Nat} (h : b < 2 ^ n) : a * 2 ^ n ||| b = a * 2 ^ n + b := by
  rw [Nat.mul_comm, Nat.two_pow_add_eq_or_of_lt h]
def bL (l : List UInt8) : List D := l.map fun b => u1D b.toNat
def bD (l : List UInt8) : D := .sl false (bL l)
def strD (l : List UInt8) : D := .val (.string ⟨l.toArray⟩)
theorem bL_len (l : List UInt8) : (bL l).length = l.length := by simp [bL]
theorem bL_can : ∀ l : List UInt8, D.canonL (bL l) = true
  | [] => rfl
  | b :: l => by
    have := bL_can l
    simp only [bL, List.map_cons, D.canonL, this] at this ⊢
    rfl
theorem bD_can (l : List UInt8) : D.canonL [bD l] = true := by simp [bD, bL_can]
theorem bL_one (l : List UInt8) : (bL l).all D.one = true := by
  rw [List.all_eq_true]; intro d hd
  obtain ⟨b, _, rfl⟩ := List.mem_map.1 hd
  rfl
theorem bL_cells (l : List UInt8) : (bL l).flatMap D.cells = bL l := by
  induction l with
  | nil => rfl
  | cons b l ih => simp only [bL, List.map_cons, List.flatMap_cons] at ih ⊢; rw [ih]; rfl
theorem bL_app (l m : List UInt8) : bL (l ++ m) = bL l ++ bL m := by simp [bL]
theorem bL_take (l : List UInt8) (n : Nat) : (bL l).take n = bL (l.take n) := by simp [bL, List.map_take]
theorem bL_drop (l : List UInt8) (n : Nat) : (bL l).drop n = bL (l.drop n) := by simp [bL, List.map_drop]
theorem bL_all1 (l : List UInt8) : ((bL l).all fun e => e.cells.length == 1) = true := by
  rw [List.all_eq_true]; intro d hd
  obtain ⟨b, _, rfl⟩ := List.mem_map.1 hd
  rfl
theorem bL_str (l : List UInt8) : bytesD ⟨l.toArray⟩ = bL l := by simp [bytesD, bL]
theorem unbytes_bL : ∀ l : List UInt8, unbytes (bL l) = some (l.map fun b => (b.toNat : Int))
  | [] => rfl
  | b :: l => by
    have := unbytes_bL l
    simp only [bL] at this
    simp [bL, unbytes, this]
theorem push_all : ∀ (l : List UInt8) (s : ByteArray), (l.map fun b => (b.toNat : Int)).foldl (fun r n => r.push (UInt8.ofNat n.toNat)) s = ⟨(s.data.toList ++ l).toArray⟩
  | [], s => by simp
  | b :: l, s => by
    simp only [List.map_cons, List.foldl_cons]
    rw [push_all l]
    simp [ByteArray.push]
theorem str_size (l : List UInt8) : (⟨l.toArray⟩ : ByteArray).size = l.length := by simp [ByteArray.size]
theorem str_eq (l m : List UInt8) : ((⟨l.toArray⟩ : ByteArray) == ⟨m.toArray⟩) = (l == m) := by
  show (l.toArray == m.toArray) = (l == m)
  simp
theorem str_list (l : List UInt8) : (⟨l.toArray⟩ : ByteArray).toList = l := by rw [ByteArray.toList_eq]
theorem head_bL (l : List UInt8) : headOk 1 (bL l) = true := by
  cases l <;> rfl
end Go.Proofs.YtkbamkdgiglljaaGreat
