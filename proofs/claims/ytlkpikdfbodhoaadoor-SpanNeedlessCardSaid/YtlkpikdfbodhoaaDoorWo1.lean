/- Numbers in lists and in sets; the first claim of a source that is in a set. -/
import Derived.Test.YtlkpikdfbodhoaaDoorTz
import Derived.Test.YtlkpikdfbodhoaaDoorBnd
namespace Go.Proofs.YtlkpikdfbodhoaaDoor
open Go Go.Em
set_option maxRecDepth 100000
def ixP {α : Type} (P : α → Bool) : Nat → List α → Int
  | _, [] => -1
  | i, r :: l => if P r = true then (i : Int) else ixP P (i + 1) l
def XI (v : Int) (l : List Int) (k : Nat) (s : St) : Prop := ∃ (x : Env 19) (h : Heap) (i : Nat), s = ⟨x.l, h, []⟩ ∧ i + k = l.length ∧ x.v 7 = intsD l ∧ x.v 1 = D.int v ∧ x.v 8 = D.int l.length ∧ x.v 9 = D.int i ∧ ixP (· == v) 0 l = ixP (· == v) i (l.drop i)
def XQ (v : Int) (l : List Int) (x : Ex) (s : St) : Prop :=
  (x = .exit 0 ∧ ixP (· == v) 0 l = -1 ∧ ∃ (x : Env 19) (h : Heap), s = ⟨x.l, h, []⟩) ∨ (x = .ret ∧ ∃ (x : Env 19) (h : Heap), s = ⟨x.l, h, []⟩ ∧ x.v 4 = D.int (ixP (· == v) 0 l))
set_option maxHeartbeats 1000000 in
theorem index_round (v : Int) (l : List Int) (hl : l.length ≤ 20000000000000) : ∀ n, 0 ≤ n → ∀ k s, XI v l k s → Res (k56l0.ev ⟨pg, 19, none⟩ (rc pg n) s) (Rnd (XI v l) (XQ v l) k) := by
  rintro n hn k s ⟨x, h, i, rfl, hik, v7, v1, v8, v9, ho⟩
  simp only [intsD] at v7
  by_cases hlt : i < l.length
  · obtain ⟨r, hr⟩ : ∃ r, l[i] = r := ⟨l[i], rfl⟩
    have hd : l.drop i = r :: l.drop (i + 1) := by rw [List.drop_eq_getElem_cons hlt, hr]
    rw [hd, ixP] at ho
    have hw1 : IntKind.i64.wrap ((i : Int) + 1) = (i : Int) + 1 := wrap_i64 (by omega) (by omega)
    by_cases he : (r == v) = true
    · rw [if_pos he] at ho
      simp [k56l0, v1, v7, v8, v9, hlt, hr, D.cells, he]
      exact .inr ⟨rfl, _, _, rfl, by simp [ho]⟩
    · rw [if_neg he] at ho
      have he' : (r == v) = false := by simpa using he
      simp [k56l0, v1, v7, v8, v9, hlt, hr, D.cells, he', hw1]
      exact ⟨k - 1, by omega, _, _, i + 1, rfl, by omega, by simp [v7, intsD], by simp [v1], by simp [v8], by simp, ho⟩
  · simp [k56l0, v8, v9, hlt]
    have hi : i = l.length := by omega
    rw [hi, List.drop_length] at ho
    exact .inl ⟨rfl, ho, _, _, rfl⟩
theorem index_run (l : List Int) (hl : l.length ≤ 20000000000000) (v : Int) {n : Nat} (hn : l.length + 5 ≤ n) : pureCall (rc pg n) 56 [intsD l, D.int v] = some (.ret (D.int (ixP (· == v) 0 l))) := by
  obtain ⟨m, rfl, e⟩ := body (pg := pg) (f := 56) (args := [intsD l, D.int v]) (show 0 < n by omega) rfl rfl
  rw [e]
  simp [k56, Env.v_ini, intsD, ev_loop]
  refine Res.endsAfter (lp_rule 0 (XI v l) (XQ v l) (index_round v l hl) l.length m _ (by omega) ⟨_, _, 0, rfl, by omega, by simp [intsD], by simp [Env.v_ini], by simp, by simp, rfl⟩) ?_
  rintro x s (⟨rfl, ho, x, h, rfl⟩ | ⟨rfl, x, h, rfl, v4⟩)
  · simp [ho]
  · simp [v4]
def mapD (l : List Int) : List (D × D) := l.map fun n => (D.int n, D.bool true)
end Go.Proofs.YtlkpikdfbodhoaaDoor
/- Claims are taken out of a list, in its caller's heap. -/
namespace Go.Proofs.YtlkpikdfbodhoaaDoor
open Go Go.Em
set_option maxRecDepth 100000
theorem cells_len (l : List Clm) : (l.flatMap clC).length = l.length * 5 := length_flatMap clC (fun _ => rfl) l
theorem cells_canon (l : List Clm) : D.canonL (l.flatMap clC) = true := canonL_flatMap clC (fun c => by simp [clC]) l
theorem cells_chunk (l : List Clm) (n : Nat) (hn : n = l.length) : chunk 5 n (l.flatMap clC) = l.map clD := chunk_flatMap clC (by decide) (fun _ => rfl) l n hn
theorem cls_cells : ∀ l : List Clm, (l.map clD).flatMap D.cells = l.flatMap clC
  | [] => rfl
  | r :: l => by rw [List.map_cons, List.flatMap_cons, List.flatMap_cons, cls_cells l]; rfl
theorem cls_one (l : List Clm) : (l.flatMap clC).all D.one = true := by
  rw [List.all_eq_true]
  intro d hd
  obtain ⟨r, _, h⟩ := List.mem_flatMap.1 hd
  simp [clC] at h
  rcases h with rfl | rfl | rfl | rfl | rfl <;> rfl
def TF (kc km k : Nat) (L : List Int) (h : Heap) : Prop := kc ≠ k ∧ km ≠ k ∧ h.get kc = some (.cells 102 [.mapr km]) ∧ h.get km = some (.map (mapD L))
theorem TF.keep {kc km k : Nat} {L : List Int} {h h' : Heap} (t : TF kc km k L h) (hk : ∀ j B, j ≠ k → h.get j = some B → h'.get j = some B) : TF kc km k L h' :=
  ⟨t.1, t.2.1, hk _ _ t.1 t.2.2.1, hk _ _ t.2.1 t.2.2.2⟩
theorem eachE_can (h : Heap) (n : Nat) : ∀ l : List Int, eachE (Go.Em.frz h (n + 1)) (mapD l) = some (mapD l, [])
  | [] => rfl
  | a :: l => by
    have := eachE_can h n l
    simp only [mapD, List.map_cons, eachE] at this ⊢
    rw [this]
    rfl
theorem TF.frz {kc km k : Nat} {L : List Int} {h : Heap} (t : TF kc km k L h) (n : Nat) : Go.Em.frz h (n + 3) (.ptr kc 0) = some (.eref [.map (mapD L)], [kc, km]) := by
  obtain ⟨_, _, h1, h2⟩ := t
  have g : Go.Em.frz h (n + 2) (.mapr km) = some (.map (mapD L), [km]) := by
    conv => lhs; unfold Go.Em.frz
    rw [if_neg (by simp [D.canon])]
    simp only [h2, eachE_can h n L, Option.map_some]
  rw [frz_ptr, h1, frzP_cells, List.drop_zero, each_cons, g, each_nil, eachK_some]; rfl
def Fz (h : Heap) (d : D) (l : List Clm) : Prop := ∃ ks, Go.Em.frz h 24 d = some (clsD l, ks)
theorem Fz.of {h : Heap} {k m : Nat} {c : Option Nat} {ty : TypeId} {cs : List D} {l : List Clm} (hg : h.get k = some (.cells ty cs)) (hm : m = l.length) (hc : cs.take (m * 5) = l.flatMap clC) : Fz h (.slr k 0 m 5 c) l := by
  have hea := each_canon h 22 (l.flatMap clC) (cells_canon l)
  have hle : m * 5 ≤ cs.length := by
    have := congrArg List.length hc
    rw [List.length_take, cells_len] at this; omega
  refine ⟨[k], ?_⟩
  rw [frz_slr, hg, frzS_cells]
  simp only [List.drop_zero, hc, hea, Option.map_some, cells_chunk l m hm, Nat.zero_add]
  rw [if_pos ⟨hle, by omega⟩]; rfl
end Go.Proofs.YtlkpikdfbodhoaaDoor
/- Claims without those of some sources: by the program and by the document. -/
namespace Go.Proofs.YtlkpikdfbodhoaaDoor
open Go Go.Em
set_option maxRecDepth 100000
def Un (h0 h : Heap) : Prop := h0.next ≤ h.next ∧ ∀ j, j < h0.next → h.raw j = h0.raw j
theorem Res.tailG {β : Type} {F : β → D} {o : Option (Ex × St)} {id : Nat} {k : St → Option (Ex × St)} {R : Rc} {rs : List (ResultVar × Bool × Nat)} {P : Ex → St → Prop} {C : β → Heap → Prop} (h : Res o P)
    (hk : ∀ x s, P x s → ∃ d h', endH R rs (andThen (blockK id (some (x, s))) k) = some (.ret (F d), h') ∧ C d h') : ∃ d h', endH R rs (andThen (blockK id o) k) = some (.ret (F d), h') ∧ C d h' := by
  obtain ⟨x, s, rfl, p⟩ := h; exact hk x s p
def GC (h : Heap) (d : D) (l : List Clm) : Prop := (l = [] ∧ d = .val (.slice none 0 0)) ∨ ∃ k, d = .slr k 0 l.length 5 none ∧ h.get k = some (.cells 42 (l.flatMap clC)) ∧ k < h.next
theorem GC.keep {h h' : Heap} {d : D} {l : List Clm} (g : GC h d l) (hn : h.next ≤ h'.next) (hk : ∀ k, k < h.next → h'.get k = h.get k) : GC h' d l := by
  rcases g with g | ⟨k, a, b, c⟩
  · exact .inl g
  · exact .inr ⟨k, a, by rw [hk k c]; exact b, by omega⟩
theorem GC.frz {h : Heap} {d : D} {l : List Clm} (g : GC h d l) : Fz h d l := by
  rcases g with ⟨rfl, rfl⟩ | ⟨k, rfl, g, _⟩
  · exact ⟨[], rfl⟩
  · exact Fz.of g rfl (List.take_of_length_le (by rw [cells_len]; omega))
end Go.Proofs.YtlkpikdfbodhoaaDoor
