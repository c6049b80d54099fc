/- The heap of a running call, its small code, and what that code does. -/
import Derived.Test.YtjgafgkkpofgbaaDoorEmA
namespace Go.Em
open Go Go.RowKit

inductive X where
  | s (n : Nat)
  | c (v : Value)
  | f (f : FuncId)
  | g (n : Nat)

/-- What is held against what. -/
inductive CK where
  | int
  | str
  | bool
inductive NK where
  | iface
  | slice
  | ptr
  | map
  | func
inductive EqK where
  | bool
  | nil (k : NK)
  | cells (ks : List CK)

/-- Operations that run no code. -/
inductive M where
  | mv (x : X)
  | pick (c x y : X)
  | bin (op : BinOp) (x y : X)
  | eq (neg : Bool) (k : EqK) (x y : X)
  | not (x : X)
  | neg (x : X)
  | cvi (k : IntKind) (x : X)
  | alloc (t : TypeId) (z : List Value)
  | box (t : TypeId) (n : Nat) (x : X)
  | ld (ag : Bool) (n : Nat) (x : X)
  | st (n : Nat) (x y : X)
  | nc (x : X)
  | fa (x : X) (off : Nat)
  | iaa (m sz : Nat) (x i : X)
  | ias (sz : Nat) (x i : X)
  | fd (ag : Bool) (n off : Nat) (x : X)
  | ixs (x i : X)
  | ex (x : X) (i : Nat)
  | len (x : X)
  | lens (x : X)
  | cap (x : X)
  | app (et sz bytes : Nat) (x y : X)
  | apps (et bytes : Nat) (x y : X)
  | apz (et sz bytes : Nat) (z : List Value) (x y : X)
  | cpy (sz : Nat) (x y : X)
  | clr (z : List Value) (x : X)
  | bs (et sz n : Nat) (z : List Value) (ps : List (Nat × X))
  | bst (et sz n : Nat) (z : List Value) (ps : List (Nat × X))
  | bld (z : List Value) (ps : List (Nat × Nat × X))
  | mks (et sz bytes : Nat) (z : List Value) (l c : X)
  | slc (sz : Nat) (x : X) (lo hi mx : Option X)
  | sls (x : X) (lo hi : Option X)
  | sla (m sz : Nat) (x : X) (lo hi mx : Option X)
  | mkf (f : Fn) (fs caps : List X)
  | mm (mx : Bool) (x y : X)
  | mkm
  | mkmc (x : X)
  | upd (ck : CK) (x k v : X)
  | lk (ck : CK) (z : Value) (ok : Bool) (x k : X)
  | rng (x : X)
  | nxt (x : X)
  | mki (t : TypeId) (x : X)
  | ta (t : TypeId) (z : Value) (x : X)
  | s2b (et : Nat) (x : X)
  | b2s (x : X)
  | cpl (x : X)
  | ixa (ag : Bool) (sz m : Nat) (x i : X)
  | usd (x : X)
  | ust (x n : X)

/-- Operations that run code. -/
inductive Cl where
  | fn (f : FuncId) (args : List X)
  | val (x : X) (args : List X)
  | dfr (x : X) (args : List X)
  | pan (x : X)
  | rcv
  | ixb (f : FuncId) (args : List X)

/-- One operation of a region: its guard, the slot that it writes. -/
structure G where
  g : Option (Nat × Bool)
  d : Option Nat
  o : M ⊕ Cl

/-- A block that an operation of a drawn region changes, or that others change: one that is made for that slot, or that to which that slot leads. -/
inductive HK where
  | fr (s : Nat)
  | at (s : Nat)
  | keep (s : Nat)
  | av (s : Nat)
deriving DecidableEq
/-- An operation of a drawn region: what it changes, and what is hidden from it. -/
structure DG where
  g : G
  ts : Option (List HK)
  hs : List HK
  wt : Nat := 0
  pn : Bool := false

inductive Cd where
  | skip
  | region (ops : List G)
  | draw (ops : List DG)
  | seq (a b : Cd)
  | cond (x : X) (a b : Cd)
  | block (id : Nat) (c : Cd)
  | loop (c : Cd)
  | scope (c : Cd)
  | exit (id : Nat)
  | ret
  | rangeF (x : X) (ps : List Nat) (assign body : Cd)

inductive Ex where
  | normal
  | exit (id : Nat)
  | ret
  | pan (d : D)
def Ex.code : Ex → Option Code
  | .exit id => some (.exit id)
  | .ret => some .ret
  | _ => none

structure Lp where
  e : List D
  ps : List Nat
  as : Cd
  bd : Cd
  dn : Nat
  st : LoopState
  pe : Ex

inductive Blk where
  | cells (ty : TypeId) (cs : List D)
  | map (es : List (D × D))
  | iter (s : ByteArray) (pos : Nat)
  | mark
  | loop (l : Lp)

/-- Blocks by their numbers, in their order; none is left of a block that is given up. -/
structure Heap where
  l : List (Nat × Option Blk)
  next : Nat

namespace Heap
def look (k : Nat) : List (Nat × Option Blk) → Option (Option Blk)
  | [] => none
  | (j, b) :: l => if k = j then some b else if k < j then none else look k l
def ins (k : Nat) (b : Option Blk) : List (Nat × Option Blk) → List (Nat × Option Blk)
  | [] => [(k, b)]
  | (j, c) :: l => if k = j then (k, b) :: l else if k < j then (k, b) :: (j, c) :: l else (j, c) :: ins k b l
def raw (h : Heap) (k : Nat) : Option (Option Blk) := look k h.l
def get (h : Heap) (k : Nat) : Option Blk := (h.raw k).join
def set (h : Heap) (k : Nat) (b : Option Blk) : Heap := { h with l := ins k b h.l }
def bump (h : Heap) (n : Nat) : Heap := { h with next := h.next + n }
def empty : Heap := ⟨[], 0⟩

theorem look_ins_same (k : Nat) (b : Option Blk) : ∀ l, look k (ins k b l) = some b
  | [] => by simp [ins, look]
  | (j, c) :: l => by
    simp only [ins]
    split
    · simp [look]
    · split
      · simp [look]
      · rename_i h1 h2
        simp only [look, if_neg h1, if_neg h2]
        exact look_ins_same k b l
theorem look_ins_ne {k k' : Nat} (b : Option Blk) (h : k' ≠ k) : ∀ l, look k' (ins k b l) = look k' l
  | [] => by
    simp only [ins, look, if_neg h]; split <;> rfl
  | (j, c) :: l => by
    simp only [ins]
    split
    · rename_i h1; subst h1
      simp only [look, if_neg h]
    · split
      · rename_i h1 h2
        simp only [look, if_neg h]
        by_cases h3 : k' < k
        · rw [if_pos h3]; rw [if_neg (by omega), if_pos (by omega)]
        · rw [if_neg h3]
      · rename_i h1 h2
        simp only [look]
        split
        · rfl
        · split
          · rfl
          · exact look_ins_ne b h l
theorem ins_comm {k k' : Nat} (b b' : Option Blk) (h : k < k') : ∀ l, ins k b (ins k' b' l) = ins k' b' (ins k b l)
  | [] => by simp [ins, h, Nat.ne_of_gt h, Nat.not_lt.2 (Nat.le_of_lt h), Nat.ne_of_lt h]
  | (j, c) :: l => by
    have hne : k ≠ k' := Nat.ne_of_lt h
    have hne' : k' ≠ k := Nat.ne_of_gt h
    have hnl : ¬ k' < k := by omega
    rcases Nat.lt_trichotomy k' j with h1 | h1 | h1
    · simp only [ins, if_neg (Nat.ne_of_lt h1), if_pos h1, if_neg hne, if_pos h, if_neg (show k ≠ j by omega), if_pos (show k < j by omega), if_neg hne', if_neg hnl]
    · subst h1
      simp only [ins, if_true, if_neg hne, if_pos h, if_neg hne', if_neg hnl]
    · rcases Nat.lt_trichotomy k j with h2 | h2 | h2
      · simp only [ins, if_neg (show k' ≠ j by omega), if_neg (show ¬ k' < j by omega), if_neg (show k ≠ j by omega), if_pos h2, if_neg hne', if_neg hnl]
      · subst h2
        simp only [ins, if_neg hne', if_neg hnl, if_true]
      · simp only [ins, if_neg (show k' ≠ j by omega), if_neg (show ¬ k' < j by omega), if_neg (show k ≠ j by omega), if_neg (show ¬ k < j by omega), ins_comm b b' h l]

@[simp] theorem raw_set_same (h : Heap) (k : Nat) (b : Option Blk) : (h.set k b).raw k = some b := look_ins_same k b _
theorem raw_set_ne (h : Heap) {k k' : Nat} (b : Option Blk) (hk : k' ≠ k) : (h.set k b).raw k' = h.raw k' := look_ins_ne b hk _
@[simp] theorem get_set_same (h : Heap) (k : Nat) (b : Option Blk) : (h.set k b).get k = b := by simp [get]
theorem get_set_ne (h : Heap) {k k' : Nat} (b : Option Blk) (hk : k' ≠ k) : (h.set k b).get k' = h.get k' := by simp [get, raw_set_ne h b hk]
@[simp] theorem raw_bump (h : Heap) (n k : Nat) : (h.bump n).raw k = h.raw k := rfl
@[simp] theorem get_bump (h : Heap) (n k : Nat) : (h.bump n).get k = h.get k := rfl
@[simp] theorem next_set (h : Heap) (k : Nat) (b : Option Blk) : (h.set k b).next = h.next := rfl
@[simp] theorem next_bump (h : Heap) (n : Nat) : (h.bump n).next = h.next + n := rfl
theorem raw_of_get {h : Heap} {k : Nat} {B : Blk} (x : h.get k = some B) : h.raw k = some (some B) := by
  unfold get at x
  cases y : h.raw k with
  | none => rw [y] at x; cases x
  | some b => rw [y] at x; simp at x; rw [x]
theorem set_comm (h : Heap) {k k' : Nat} (b b' : Option Blk) (hk : k ≠ k') : (h.set k b).set k' b' = (h.set k' b').set k b := by
  simp only [set]
  congr 1
  rcases Nat.lt_or_ge k k' with h1 | h1
  · exact (ins_comm b b' h1 _).symm
  · exact ins_comm b' b (by omega) _
theorem ins_ins (k : Nat) (b c : Option Blk) : ∀ l, ins k b (ins k c l) = ins k b l
  | [] => by simp [ins]
  | (j, x) :: l => by
    rcases Nat.lt_trichotomy k j with h | h | h
    · simp only [ins, if_neg (Nat.ne_of_lt h), if_pos h, if_true]
    · subst h; simp only [ins, if_true]
    · simp only [ins, if_neg (Nat.ne_of_gt h), if_neg (show ¬ k < j by omega), ins_ins k b c l]
theorem set_set (h : Heap) (k : Nat) (b c : Option Blk) : (h.set k c).set k b = h.set k b := by
  simp only [set, ins_ins]
def alloc (h : Heap) (k : Nat) (b : Blk) : Option Heap := match h.raw k with
  | none => some (h.set k (some b))
  | some _ => none
end Heap

inductive Df where
  | mark (k : Nat)
  | call (f : D) (args : List D)

structure FnCode where
  N : Nat
  sh : Bool
  rs : List (ResultVar × Bool × Nat)
  code : Cd
structure Pg where
  code : Nat → Option FnCode
  gl : Nat → Option (List D)
end Go.Em
