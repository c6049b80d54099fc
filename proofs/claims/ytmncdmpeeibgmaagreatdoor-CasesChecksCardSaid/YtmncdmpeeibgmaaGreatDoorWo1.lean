/- Numbers in lists and in sets; the first claim of a source that is in a set. -/
import Derived.Test.YtmncdmpeeibgmaaGreatDoorTz
import Derived.Test.YtmncdmpeeibgmaaGreatDoorSane
namespace Go.Proofs.YtmncdmpeeibgmaaGreatDoor
open Go Go.Em
set_option maxRecDepth 100000
def mapD (l : List Int) : List (D × D) := l.map fun n => (D.int n, D.bool true)
end Go.Proofs.YtmncdmpeeibgmaaGreatDoor
/- Claims are taken out of a list, in its caller's heap. -/
namespace Go.Proofs.YtmncdmpeeibgmaaGreatDoor
open Go Go.Em
set_option maxRecDepth 100000
theorem cells_len (l : List Clm) : (l.flatMap clC).length = l.length * 5 := length_flatMap clC (fun _ => rfl) l
theorem cells_canon (l : List Clm) : D.canonL (l.flatMap clC) = true := canonL_flatMap clC (fun c => by simp [clC]) l
theorem cells_chunk (l : List Clm) (n : Nat) (hn : n = l.length) : chunk 5 n (l.flatMap clC) = l.map clD := chunk_flatMap clC (by decide) (fun _ => rfl) l n hn
def TF (kc km k : Nat) (L : List Int) (h : Heap) : Prop := kc ≠ k ∧ km ≠ k ∧ h.get kc = some (.cells 75 [.mapr km]) ∧ h.get km = some (.map (mapD L))
theorem TF.keep {kc km k : Nat} {L : List Int} {h h' : Heap} (t : TF kc km k L h) (hk : ∀ j B, j ≠ k → h.get j = some B → h'.get j = some B) : TF kc km k L h' :=
  ⟨t.1, t.2.1, hk _ _ t.1 t.2.2.1, hk _ _ t.2.1 t.2.2.2⟩
theorem eachE_can (h : Heap) (n : Nat) : ∀ l : List Int, eachE (Go.Em.frz h (n + 1)) (mapD l) = some (mapD l, [])
  | [] => rfl
  | a :: l => by
    have := eachE_can h n l
    simp only [mapD, List.map_cons, eachE] at this ⊢
    rw [this]
    rfl
theorem TF.frz {kc km k : Nat} {L : List Int} {h : Heap} (t : TF kc km k L h) (n : Nat) : Go.Em.frz h (n + 3) (.ptr kc 0) = some (.eref [.map (mapD L)], [kc, km]) := by
  obtain ⟨_, _, h1, h2⟩ := t
  have g : Go.Em.frz h (n + 2) (.mapr km) = some (.map (mapD L), [km]) := by
    conv => lhs; unfold Go.Em.frz
    rw [if_neg (by simp [D.canon])]
    simp only [h2, eachE_can h n L, Option.map_some]
  rw [frz_ptr, h1, frzP_cells, List.drop_zero, each_cons, g, each_nil, eachK_some]; rfl
def Fz (h : Heap) (d : D) (l : List Clm) : Prop := ∃ ks, Go.Em.frz h 24 d = some (clsD l, ks)
theorem Fz.of {h : Heap} {k m : Nat} {c : Option Nat} {ty : TypeId} {cs : List D} {l : List Clm} (hg : h.get k = some (.cells ty cs)) (hm : m = l.length) (hc : cs.take (m * 5) = l.flatMap clC) : Fz h (.slr k 0 m 5 c) l := by
  have hea := each_canon h 22 (l.flatMap clC) (cells_canon l)
  have hle : m * 5 ≤ cs.length := by
    have := congrArg List.length hc
    rw [List.length_take, cells_len] at this; omega
  refine ⟨[k], ?_⟩
  rw [frz_slr, hg, frzS_cells]
  simp only [List.drop_zero, hc, hea, Option.map_some, cells_chunk l m hm, Nat.zero_add]
  rw [if_pos ⟨hle, by omega⟩]; rfl
end Go.Proofs.YtmncdmpeeibgmaaGreatDoor
/- Claims without those of some sources: by the program and by the document. -/
namespace Go.Proofs.YtmncdmpeeibgmaaGreatDoor
open Go Go.Em
set_option maxRecDepth 100000
def Un (h0 h : Heap) : Prop := h0.next ≤ h.next ∧ ∀ j, j < h0.next → h.raw j = h0.raw j
def GC (h : Heap) (d : D) (l : List Clm) : Prop := (l = [] ∧ d = .val (.slice none 0 0)) ∨ ∃ k, d = .slr k 0 l.length 5 none ∧ h.get k = some (.cells 45 (l.flatMap clC)) ∧ k < h.next
theorem GC.keep {h h' : Heap} {d : D} {l : List Clm} (g : GC h d l) (hn : h.next ≤ h'.next) (hk : ∀ k, k < h.next → h'.get k = h.get k) : GC h' d l := by
  rcases g with g | ⟨k, a, b, c⟩
  · exact .inl g
  · exact .inr ⟨k, a, by rw [hk k c]; exact b, by omega⟩
theorem GC.frz {h : Heap} {d : D} {l : List Clm} (g : GC h d l) : Fz h d l := by
  rcases g with ⟨rfl, rfl⟩ | ⟨k, rfl, g, _⟩
  · exact ⟨[], rfl⟩
  · exact Fz.of g rfl (List.take_of_length_le (by rw [cells_len]; omega))
end Go.Proofs.YtmncdmpeeibgmaaGreatDoor
