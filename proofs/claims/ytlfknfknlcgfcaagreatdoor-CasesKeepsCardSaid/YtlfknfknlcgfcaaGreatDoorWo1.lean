/- Numbers in lists and in sets; the first claim of a source that is in a set. -/
import Derived.Test.YtlfknfknlcgfcaaGreatDoorTz
import Derived.Test.YtlfknfknlcgfcaaGreatDoorSane
namespace Go.Proofs.YtlfknfknlcgfcaaGreatDoor
open Go Go.Em
set_option maxRecDepth 100000
def ixP {α : Type} (P : α → Bool) : Nat → List α → Int
  | _, [] => -1
  | i, r :: l => if P r = true then (i : Int) else ixP P (i + 1) l
theorem ixP_any {α : Type} (P : α → Bool) : ∀ (l : List α) (i : Nat), decide (ixP P i l ≥ 0) = l.any P
  | [], _ => rfl
  | r :: l, i => by
    unfold ixP
    by_cases h : P r = true
    · rw [if_pos h]; simp [h]
    · rw [if_neg h, ixP_any P l]; simp [h]
theorem ixP_ge {α : Type} (P : α → Bool) : ∀ (l : List α) (i : Nat), (ixP P i l = -1 ∧ ∀ v ∈ l, P v = false) ∨ ∃ j : Nat, ixP P i l = ((i + j : Nat) : Int) ∧ j < l.length ∧ (∀ v ∈ l.take j, P v = false) ∧ ∃ (h : j < l.length), P l[j] = true
  | [], _ => .inl ⟨rfl, fun _ h => by cases h⟩
  | r :: l, i => by
    unfold ixP
    by_cases h : P r = true
    · rw [if_pos h]
      exact .inr ⟨0, by simp, by simp, fun v hv => by simp at hv, by simp, h⟩
    · rw [if_neg h]
      have h' : P r = false := by simpa using h
      rcases ixP_ge P l (i + 1) with ⟨h1, h2⟩ | ⟨j, h1, h2, h3, h4, h5⟩
      · exact .inl ⟨h1, fun v hv => by rcases List.mem_cons.1 hv with rfl | hv; exact h'; exact h2 v hv⟩
      · refine .inr ⟨j + 1, by rw [h1]; congr 1; omega, by simp; omega, fun v hv => ?_, by simp; omega, by simpa using h5⟩
        rw [List.take_succ_cons] at hv
        rcases List.mem_cons.1 hv with rfl | hv
        · exact h'
        · exact h3 v hv
def mapD (l : List Int) : List (D × D) := l.map fun n => (D.int n, D.bool true)
end Go.Proofs.YtlfknfknlcgfcaaGreatDoor
/- Claims are taken out of a list, in its caller's heap. -/
namespace Go.Proofs.YtlfknfknlcgfcaaGreatDoor
open Go Go.Em
set_option maxRecDepth 100000
theorem callfz {pg : Pg} {R : Rc} {f : FuncId} {a : D} {args bs : List D} {ks : List Nat} {h : Heap} {o : Out} (hs : pg.sh f = false) (ha : each (Go.Em.frz h depth) (a :: args) = some (bs, ks)) (x : pureCall R f bs = some o) (hf : (ks.isEmpty || o.d.flat) = true) : call pg R f (a :: args) h = some (o, h) := by
  simp only [call, hs, Bool.false_eq_true, if_false, ha, pureA, pureS, orS, x, Option.map_some, hf, if_true]
theorem cells_len (l : List Clm) : (l.flatMap clC).length = l.length * 5 := length_flatMap clC (fun _ => rfl) l
theorem cells_canon (l : List Clm) : D.canonL (l.flatMap clC) = true := canonL_flatMap clC (fun c => by simp [clC]) l
theorem cells_chunk (l : List Clm) (n : Nat) (hn : n = l.length) : chunk 5 n (l.flatMap clC) = l.map clD := chunk_flatMap clC (by decide) (fun _ => rfl) l n hn
theorem cls_cells : ∀ l : List Clm, (l.map clD).flatMap D.cells = l.flatMap clC
  | [] => rfl
  | r :: l => by rw [List.map_cons, List.flatMap_cons, List.flatMap_cons, cls_cells l]; rfl
theorem cls_one (l : List Clm) : (l.flatMap clC).all D.one = true := by
  rw [List.all_eq_true]
  intro d hd
  obtain ⟨r, _, h⟩ := List.mem_flatMap.1 hd
  simp [clC] at h
  rcases h with rfl | rfl | rfl | rfl | rfl <;> rfl
def TF (kc km k : Nat) (L : List Int) (h : Heap) : Prop := kc ≠ k ∧ km ≠ k ∧ h.get kc = some (.cells 97 [.mapr km]) ∧ h.get km = some (.map (mapD L))
theorem TF.keep {kc km k : Nat} {L : List Int} {h h' : Heap} (t : TF kc km k L h) (hk : ∀ j B, j ≠ k → h.get j = some B → h'.get j = some B) : TF kc km k L h' :=
  ⟨t.1, t.2.1, hk _ _ t.1 t.2.2.1, hk _ _ t.2.1 t.2.2.2⟩
theorem eachE_can (h : Heap) (n : Nat) : ∀ l : List Int, eachE (Go.Em.frz h (n + 1)) (mapD l) = some (mapD l, [])
  | [] => rfl
  | a :: l => by
    have := eachE_can h n l
    simp only [mapD, List.map_cons, eachE] at this ⊢
    rw [this]
    rfl
theorem TF.frz {kc km k : Nat} {L : List Int} {h : Heap} (t : TF kc km k L h) (n : Nat) : Go.Em.frz h (n + 3) (.ptr kc 0) = some (.eref [.map (mapD L)], [kc, km]) := by
  obtain ⟨_, _, h1, h2⟩ := t
  have g : Go.Em.frz h (n + 2) (.mapr km) = some (.map (mapD L), [km]) := by
    conv => lhs; unfold Go.Em.frz
    rw [if_neg (by simp [D.canon])]
    simp only [h2, eachE_can h n L, Option.map_some]
  rw [frz_ptr, h1, frzP_cells, List.drop_zero, each_cons, g, each_nil, eachK_some]; rfl
def Fz (h : Heap) (d : D) (l : List Clm) : Prop := ∃ ks, Go.Em.frz h 24 d = some (clsD l, ks)
theorem Fz.of {h : Heap} {k m : Nat} {c : Option Nat} {ty : TypeId} {cs : List D} {l : List Clm} (hg : h.get k = some (.cells ty cs)) (hm : m = l.length) (hc : cs.take (m * 5) = l.flatMap clC) : Fz h (.slr k 0 m 5 c) l := by
  have hea := each_canon h 22 (l.flatMap clC) (cells_canon l)
  have hle : m * 5 ≤ cs.length := by
    have := congrArg List.length hc
    rw [List.length_take, cells_len] at this; omega
  refine ⟨[k], ?_⟩
  rw [frz_slr, hg, frzS_cells]
  simp only [List.drop_zero, hc, hea, Option.map_some, cells_chunk l m hm, Nat.zero_add]
  rw [if_pos ⟨hle, by omega⟩]; rfl
end Go.Proofs.YtlfknfknlcgfcaaGreatDoor
/- Claims without those of some sources: by the program and by the document. -/
namespace Go.Proofs.YtlfknfknlcgfcaaGreatDoor
open Go Go.Em
set_option maxRecDepth 100000
theorem appS_zero5 {t : Nat} {h : Heap} {m : Nat} {news cs : List D} {k : Nat} {ty : TypeId} (h0 : 0 < m) (hr : m * 40 ≤ room) (hm : m ≤ maxLen) :
    appS t 96 5 40 h m news k 0 0 5 (some 0) (some (.cells ty cs)) = (h.alloc t (.cells 96 news)).map fun h => (.slr t 0 m 5 none, h) := by
  unfold appS
  simp [hr, hm, show ¬ m = 0 by omega]
def GC (h : Heap) (d : D) (l : List Clm) : Prop := (l = [] ∧ d = .val (.slice none 0 0)) ∨ ∃ k, d = .slr k 0 l.length 5 none ∧ h.get k = some (.cells 96 (l.flatMap clC)) ∧ k < h.next
theorem GC.keep {h h' : Heap} {d : D} {l : List Clm} (g : GC h d l) (hn : h.next ≤ h'.next) (hk : ∀ k, k < h.next → h'.get k = h.get k) : GC h' d l := by
  rcases g with g | ⟨k, a, b, c⟩
  · exact .inl g
  · exact .inr ⟨k, a, by rw [hk k c]; exact b, by omega⟩
theorem GC.frz {h : Heap} {d : D} {l : List Clm} (g : GC h d l) : Fz h d l := by
  rcases g with ⟨rfl, rfl⟩ | ⟨k, rfl, g, _⟩
  · exact ⟨[], rfl⟩
  · exact Fz.of g rfl (List.take_of_length_le (by rw [cells_len]; omega))
end Go.Proofs.YtlfknfknlcgfcaaGreatDoor
