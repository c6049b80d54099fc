/- Numbers in lists and in sets; the first claim of a source that is in a set. -/
import Derived.Test.YtlfknfknlcgfcaaGreatDoorTz
import Derived.Test.YtlfknfknlcgfcaaGreatDoorSane
namespace Go.Proofs.YtlfknfknlcgfcaaGreatDoor
open Go Go.Em
set_option maxRecDepth 100000
def ixP {α : Type} (P : α → Bool) : Nat → List α → Int
  | _, [] => -1
  | i, r :: l => if P r = true then (i : Int) else ixP P (i + 1) l
theorem ixP_any {α : Type} (P : α → Bool) : ∀ (l : List α) (i : Nat), decide (ixP P i l ≥ 0) = l.any P
  | [], _ => rfl
  | r :: l, i => by
    unfold ixP
    by_cases h : P r = true
    · rw [if_pos h]; simp [h]
    · rw [if_neg h, ixP_any P l]; simp [h]
theorem ixP_ge {α : Type} (P : α → Bool) : ∀ (l : List α) (i : Nat), (ixP P i l = -1 ∧ ∀ v ∈ l, P v = false) ∨ ∃ j : Nat, ixP P i l = ((i + j : Nat) : Int) ∧ j < l.length ∧ (∀ v ∈ l.take j, P v = false) ∧ ∃ (h : j < l.length), P l[j] = true
  | [], _ => .inl ⟨rfl, fun _ h => by cases h⟩
  | r :: l, i => by
    unfold ixP
    by_cases h : P r = true
    · rw [if_pos h]
      exact .inr ⟨0, by simp, by simp, fun v hv => by simp at hv, by simp, h⟩
    · rw [if_neg h]
      have h' : P r = false := by simpa using h
      rcases ixP_ge P l (i + 1) with ⟨h1, h2⟩ | ⟨j, h1, h2, h3, h4, h5⟩
      · exact .inl ⟨h1, fun v hv => by rcases List.mem_cons.1 hv with rfl | hv; exact h'; exact h2 v hv⟩
      · refine .inr ⟨j + 1, by rw [h1]; congr 1; omega, by simp; omega, fun v hv => ?_, by simp; omega, by simpa using h5⟩
        rw [List.take_succ_cons] at hv
        rcases List.mem_cons.1 hv with rfl | hv
        · exact h'
        · exact h3 v hv
def hasI (l : List Int) (v : Int) : Bool := l.any (· == v)
theorem hasI_mem {l : List Int} {v : Int} : hasI l v = true ↔ v ∈ l := by unfold hasI; simp
def XI (v : Int) (l : List Int) (k : Nat) (s : St) : Prop := ∃ (x : Env 19) (h : Heap) (i : Nat), s = ⟨x.l, h, []⟩ ∧ i + k = l.length ∧ x.v 7 = intsD l ∧ x.v 1 = D.int v ∧ x.v 8 = D.int l.length ∧ x.v 9 = D.int i ∧ ixP (· == v) 0 l = ixP (· == v) i (l.drop i)
def XQ (v : Int) (l : List Int) (x : Ex) (s : St) : Prop :=
  (x = .exit 0 ∧ ixP (· == v) 0 l = -1 ∧ ∃ (x : Env 19) (h : Heap), s = ⟨x.l, h, []⟩) ∨ (x = .ret ∧ ∃ (x : Env 19) (h : Heap), s = ⟨x.l, h, []⟩ ∧ x.v 4 = D.int (ixP (· == v) 0 l))
set_option maxHeartbeats 1000000 in
theorem index_round (v : Int) (l : List Int) (hl : l.length ≤ 20000000000000) : ∀ n, 0 ≤ n → ∀ k s, XI v l k s → Res (k118l0.ev ⟨pg, 19, none⟩ (rc pg n) s) (Rnd (XI v l) (XQ v l) k) := by
  rintro n hn k s ⟨x, h, i, rfl, hik, v7, v1, v8, v9, ho⟩
  simp only [intsD] at v7
  by_cases hlt : i < l.length
  · obtain ⟨r, hr⟩ : ∃ r, l[i] = r := ⟨l[i], rfl⟩
    have hd : l.drop i = r :: l.drop (i + 1) := by rw [List.drop_eq_getElem_cons hlt, hr]
    rw [hd, ixP] at ho
    have hw1 : IntKind.i64.wrap ((i : Int) + 1) = (i : Int) + 1 := wrap_i64 (by omega) (by omega)
    by_cases he : (r == v) = true
    · rw [if_pos he] at ho
      simp [k118l0, v1, v7, v8, v9, hlt, hr, D.cells, he]
      exact .inr ⟨rfl, _, _, rfl, by simp [ho]⟩
    · rw [if_neg he] at ho
      have he' : (r == v) = false := by simpa using he
      simp [k118l0, v1, v7, v8, v9, hlt, hr, D.cells, he', hw1]
      exact ⟨k - 1, by omega, _, _, i + 1, rfl, by omega, by simp [v7, intsD], by simp [v1], by simp [v8], by simp, ho⟩
  · simp [k118l0, v8, v9, hlt]
    have hi : i = l.length := by omega
    rw [hi, List.drop_length] at ho
    exact .inl ⟨rfl, ho, _, _, rfl⟩
theorem index_run (l : List Int) (hl : l.length ≤ 20000000000000) (v : Int) {n : Nat} (hn : l.length + 5 ≤ n) : pureCall (rc pg n) 118 [intsD l, D.int v] = some (.ret (D.int (ixP (· == v) 0 l))) := by
  obtain ⟨m, rfl, e⟩ := body (pg := pg) (f := 118) (args := [intsD l, D.int v]) (show 0 < n by omega) rfl rfl
  rw [e]
  simp [k118, Env.v_ini, intsD, ev_loop]
  refine Res.endsAfter (lp_rule 0 (XI v l) (XQ v l) (index_round v l hl) l.length m _ (by omega) ⟨_, _, 0, rfl, by omega, by simp [intsD], by simp [Env.v_ini], by simp, by simp, rfl⟩) ?_
  rintro x s (⟨rfl, ho, x, h, rfl⟩ | ⟨rfl, x, h, rfl, v4⟩)
  · simp [ho]
  · simp [v4]
theorem has_run (l : List Int) (hl : l.length ≤ 20000000000000) (v : Int) {n : Nat} (hn : l.length + 6 ≤ n) : pureCall (rc pg n) 51 [intsD l, D.int v] = some (.ret (D.bool (hasI l v))) := by
  obtain ⟨m, rfl, e⟩ := body (pg := pg) (f := 51) (args := [intsD l, D.int v]) (show 0 < n by omega) rfl rfl
  rw [e]
  have hx := fun h => call_of (h := h) (pg := pg) (f := 118) (args := [intsD l, D.int v]) rfl (by simp [intsD, ints_canonL]) (@index_run l hl v m (by omega))
  have ha := ixP_any (· == v) l 0
  simp only [intsD] at hx
  simp [-List.any_eq_true, k51, Env.v_ini, intsD, hx]
  unfold hasI
  rw [← ha]
def setF (l : List Int) : List Int := l.foldl (fun m n => if n ∈ m then m else m ++ [n]) []
theorem setF_snoc (l : List Int) (n : Int) : setF (l ++ [n]) = if n ∈ setF l then setF l else setF l ++ [n] := by unfold setF; rw [List.foldl_append]; rfl
theorem foldl_set (x : Int) : ∀ (l m : List Int), x ∈ l.foldl (fun m n => if n ∈ m then m else m ++ [n]) m ↔ x ∈ m ∨ x ∈ l
  | [], m => by simp
  | n :: l, m => by
    rw [List.foldl_cons, foldl_set x l]
    by_cases h : n ∈ m
    · rw [if_pos h, List.mem_cons]
      constructor
      · rintro (a | a)
        · exact .inl a
        · exact .inr (.inr a)
      · rintro (a | rfl | a)
        · exact .inl a
        · exact .inl h
        · exact .inr a
    · rw [if_neg h, List.mem_append, List.mem_singleton, List.mem_cons, or_assoc]
theorem setF_mem (l : List Int) (x : Int) : x ∈ setF l ↔ x ∈ l := by unfold setF; rw [foldl_set]; simp
def mapD (l : List Int) : List (D × D) := l.map fun n => (D.int n, D.bool true)
theorem find_in (v : Int) : ∀ (l : List Int) (i : Nat), (v ∉ l ∧ findD .int (D.int v) (mapD l) i = some none) ∨ ∃ j, findD .int (D.int v) (mapD l) i = some (some (i + j, D.bool true)) ∧ ∃ (h : j < l.length), l[j] = v
  | [], i => .inl ⟨by simp, rfl⟩
  | a :: l, i => by
    have e : findD .int (D.int v) (mapD (a :: l)) i = if (v == a) = true then some (some (i, D.bool true)) else findD .int (D.int v) (mapD l) (i + 1) := by
      simp only [mapD, List.map_cons]
      conv => lhs; unfold findD
      simp only [cellEq, if_true]
      cases v == a <;> rfl
    rw [e]
    by_cases h : v = a
    · rw [if_pos (by simp [h])]
      exact .inr ⟨0, rfl, by simp, by simp [h]⟩
    · rw [if_neg (by simpa using h)]
      rcases find_in v l (i + 1) with ⟨h1, h2⟩ | ⟨j, h1, h2, h3⟩
      · exact .inl ⟨by simp [h, h1], h2⟩
      · exact .inr ⟨j + 1, by rw [h1, show i + 1 + j = i + (j + 1) by omega], by simp; omega, by simpa using h3⟩
theorem find_has (v : Int) (l : List Int) : (hasI l v = false ∧ findD .int (D.int v) (mapD l) 0 = some none) ∨ (hasI l v = true ∧ ∃ j, findD .int (D.int v) (mapD l) 0 = some (some (j, D.bool true)) ∧ ∃ (h : j < l.length), l[j] = v) := by
  rcases find_in v l 0 with ⟨h1, h2⟩ | ⟨j, h1, h2, h3⟩
  · refine .inl ⟨?_, h2⟩
    cases h : hasI l v with
    | false => rfl
    | true => exact absurd (hasI_mem.1 h) h1
  · refine .inr ⟨hasI_mem.2 (by rw [← h3]; exact List.getElem_mem h2), j, by rw [h1, Nat.zero_add], h2, h3⟩
theorem mapE : ∀ l : List Int, D.canonE (mapD l) = true
  | [] => rfl
  | a :: l => by
    have := mapE l
    simp only [mapD, List.map_cons, D.canonE] at this ⊢
    rw [this]; rfl
theorem map_canon (l : List Int) : (D.map (mapD l)).canon = true := by
  unfold D.canon; exact mapE l
end Go.Proofs.YtlfknfknlcgfcaaGreatDoor
/- Claims are taken out of a list, in its caller's heap. -/
namespace Go.Proofs.YtlfknfknlcgfcaaGreatDoor
open Go Go.Em
set_option maxRecDepth 100000
theorem callfz {pg : Pg} {R : Rc} {f : FuncId} {a : D} {args bs : List D} {ks : List Nat} {h : Heap} {o : Out} (hs : pg.sh f = false) (ha : each (Go.Em.frz h depth) (a :: args) = some (bs, ks)) (x : pureCall R f bs = some o) (hf : (ks.isEmpty || o.d.flat) = true) : call pg R f (a :: args) h = some (o, h) := by
  simp only [call, hs, Bool.false_eq_true, if_false, ha, pureA, pureS, orS, x, Option.map_some, hf, if_true]
theorem cells_len (l : List Clm) : (l.flatMap clC).length = l.length * 5 := length_flatMap clC (fun _ => rfl) l
theorem cells_canon (l : List Clm) : D.canonL (l.flatMap clC) = true := canonL_flatMap clC (fun c => by simp [clC]) l
theorem cells_chunk (l : List Clm) (n : Nat) (hn : n = l.length) : chunk 5 n (l.flatMap clC) = l.map clD := chunk_flatMap clC (by decide) (fun _ => rfl) l n hn
theorem cls_cells : ∀ l : List Clm, (l.map clD).flatMap D.cells = l.flatMap clC
  | [] => rfl
  | r :: l => by rw [List.map_cons, List.flatMap_cons, List.flatMap_cons, cls_cells l]; rfl
theorem cls_one (l : List Clm) : (l.flatMap clC).all D.one = true := by
  rw [List.all_eq_true]
  intro d hd
  obtain ⟨r, _, h⟩ := List.mem_flatMap.1 hd
  simp [clC] at h
  rcases h with rfl | rfl | rfl | rfl | rfl <;> rfl
theorem cells_get (l : List Clm) (j : Nat) (hj : j < l.length) : ((l.flatMap clC).drop (j * 5)).take 5 = clC l[j] := by
  induction l generalizing j with
  | nil => simp at hj
  | cons a l ih =>
    cases j with
    | zero => simp [List.take_append]; rfl
    | succ j =>
      rw [List.flatMap_cons, Nat.succ_mul, Nat.add_comm, ← List.drop_drop]
      have : (clC a ++ l.flatMap clC).drop 5 = l.flatMap clC := List.drop_left' rfl
      rw [this]
      simpa using ih j (by simpa using hj)
def TF (kc km k : Nat) (L : List Int) (h : Heap) : Prop := kc ≠ k ∧ km ≠ k ∧ h.get kc = some (.cells 97 [.mapr km]) ∧ h.get km = some (.map (mapD L))
theorem TF.keep {kc km k : Nat} {L : List Int} {h h' : Heap} (t : TF kc km k L h) (hk : ∀ j B, j ≠ k → h.get j = some B → h'.get j = some B) : TF kc km k L h' :=
  ⟨t.1, t.2.1, hk _ _ t.1 t.2.2.1, hk _ _ t.2.1 t.2.2.2⟩
theorem eachE_can (h : Heap) (n : Nat) : ∀ l : List Int, eachE (Go.Em.frz h (n + 1)) (mapD l) = some (mapD l, [])
  | [] => rfl
  | a :: l => by
    have := eachE_can h n l
    simp only [mapD, List.map_cons, eachE] at this ⊢
    rw [this]
    rfl
theorem TF.frz {kc km k : Nat} {L : List Int} {h : Heap} (t : TF kc km k L h) (n : Nat) : Go.Em.frz h (n + 3) (.ptr kc 0) = some (.eref [.map (mapD L)], [kc, km]) := by
  obtain ⟨_, _, h1, h2⟩ := t
  have g : Go.Em.frz h (n + 2) (.mapr km) = some (.map (mapD L), [km]) := by
    conv => lhs; unfold Go.Em.frz
    rw [if_neg (by simp [D.canon])]
    simp only [h2, eachE_can h n L, Option.map_some]
  rw [frz_ptr, h1, frzP_cells, List.drop_zero, each_cons, g, each_nil, eachK_some]; rfl
theorem take_cells : ∀ (cs : List Clm) (i : Nat), (cs.flatMap clC).take (i * 5) = (cs.take i).flatMap clC
  | [], i => by simp
  | a :: cs, 0 => by simp
  | a :: cs, i + 1 => by
    rw [List.take_succ_cons, List.flatMap_cons, List.flatMap_cons, ← take_cells cs i, Nat.succ_mul, List.take_append, List.take_of_length_le (by simp [clC])]
    congr 2
theorem put_cells (cs : List Clm) (i : Nat) (_hi : i < cs.length) (r : Clm) : (cs.flatMap clC).take (i * 5) ++ (clC r ++ (cs.flatMap clC).drop (i * 5 + 5)) = (cs.take i ++ r :: cs.drop (i + 1)).flatMap clC := by
  have ht : ∀ (cs : List Clm) (i : Nat), (cs.flatMap clC).take (i * 5) = (cs.take i).flatMap clC := by
    intro cs
    induction cs with
    | nil => intro i; simp
    | cons a cs ih =>
      intro i
      cases i with
      | zero => simp
      | succ i =>
        rw [List.take_succ_cons, List.flatMap_cons, List.flatMap_cons, ← ih i, Nat.succ_mul, List.take_append, List.take_of_length_le (by simp [clC])]
        congr 2
  have hd : ∀ (cs : List Clm) (i : Nat), (cs.flatMap clC).drop (i * 5) = (cs.drop i).flatMap clC := by
    intro cs
    induction cs with
    | nil => intro i; simp
    | cons a cs ih =>
      intro i
      cases i with
      | zero => simp
      | succ i =>
        rw [List.drop_succ_cons, ← ih i, Nat.succ_mul, Nat.add_comm, ← List.drop_drop, List.flatMap_cons]
        have e5 : (clC a ++ cs.flatMap clC).drop 5 = cs.flatMap clC := List.drop_left' rfl
        rw [e5]
  rw [List.flatMap_append, List.flatMap_cons, ht, show i * 5 + 5 = (i + 1) * 5 by omega, hd]
theorem Res.tailH {o : Option (Ex × St)} {id : Nat} {k : St → Option (Ex × St)} {R : Rc} {rs : List (ResultVar × Bool × Nat)} {P : Ex → St → Prop} {C : D → Heap → Prop} (h : Res o P)
    (hk : ∀ x s, P x s → ∃ d h', endH R rs (andThen (blockK id (some (x, s))) k) = some (.ret d, h') ∧ C d h') : ∃ d h', endH R rs (andThen (blockK id o) k) = some (.ret d, h') ∧ C d h' := by
  obtain ⟨x, s, rfl, p⟩ := h; exact hk x s p
def Fz (h : Heap) (d : D) (l : List Clm) : Prop := ∃ ks, Go.Em.frz h 24 d = some (clsD l, ks)
theorem Fz.of {h : Heap} {k m : Nat} {c : Option Nat} {ty : TypeId} {cs : List D} {l : List Clm} (hg : h.get k = some (.cells ty cs)) (hm : m = l.length) (hc : cs.take (m * 5) = l.flatMap clC) : Fz h (.slr k 0 m 5 c) l := by
  have hea := each_canon h 22 (l.flatMap clC) (cells_canon l)
  have hle : m * 5 ≤ cs.length := by
    have := congrArg List.length hc
    rw [List.length_take, cells_len] at this; omega
  refine ⟨[k], ?_⟩
  rw [frz_slr, hg, frzS_cells]
  simp only [List.drop_zero, hc, hea, Option.map_some, cells_chunk l m hm, Nat.zero_add]
  rw [if_pos ⟨hle, by omega⟩]; rfl
end Go.Proofs.YtlfknfknlcgfcaaGreatDoor
/- Claims without those of some sources: by the program and by the document. -/
namespace Go.Proofs.YtlfknfknlcgfcaaGreatDoor
open Go Go.Em
set_option maxRecDepth 100000
theorem set_mapD (L : List Int) (j : Nat) (v : Int) (hj : j < L.length) (h : L[j] = v) : (mapD L).set j (D.int v, D.bool true) = mapD L := by
  have : (mapD L)[j]'(by simpa [mapD] using hj) = (D.int v, D.bool true) := by simp [mapD, h]
  rw [← this]; exact List.set_getElem_self _
theorem mapD_snoc (L : List Int) (v : Int) : mapD L ++ [(D.int v, D.bool true)] = mapD (L ++ [v]) := by simp [mapD]
def Un (h0 h : Heap) : Prop := h0.next ≤ h.next ∧ ∀ j, j < h0.next → h.raw j = h0.raw j
def SI (h0 : Heap) (l : List Int) (k : Nat) (s : St) : Prop := ∃ (x : Env 19) (h : Heap) (i b : Nat), s = ⟨x.l, h, []⟩ ∧ i + k = l.length ∧ x.v 9 = intsD l ∧ x.v 10 = D.int l.length ∧ x.v 11 = D.int i ∧ x.v 3 = .mapr b ∧ h.get b = some (.map (mapD (setF (l.take i)))) ∧ b < h.next ∧ h.Fr ∧ h0.next ≤ b ∧ Un h0 h
theorem appS_zero5 {t : Nat} {h : Heap} {m : Nat} {news cs : List D} {k : Nat} {ty : TypeId} (h0 : 0 < m) (hr : m * 40 ≤ room) (hm : m ≤ maxLen) :
    appS t 96 5 40 h m news k 0 0 5 (some 0) (some (.cells ty cs)) = (h.alloc t (.cells 96 news)).map fun h => (.slr t 0 m 5 none, h) := by
  unfold appS
  simp [hr, hm, show ¬ m = 0 by omega]
theorem cls_nil {l : List Clm} (h : l ≠ []) : nilOf .slice (D.sl false (l.map clD)) = some false := by
  cases l with
  | nil => exact absurd rfl h
  | cons r l => rfl
def outF (l : List Clm) (bl : List Int) : List Clm := l.filter fun c => !hasI bl c.by_
theorem hasI_set (l : List Int) (v : Int) : hasI (setF l) v = hasI l v := by
  rw [Bool.eq_iff_iff, hasI_mem, hasI_mem, setF_mem]
theorem outF_set (l : List Clm) (bl : List Int) : (l.filter fun c => !hasI (setF bl) c.by_) = outF l bl := by
  unfold outF; congr 1; funext c; rw [hasI_set]
theorem two_canon (l : List Clm) (bl : List Int) : D.canonL [clsD l, intsD bl] = true := by simp [clsD, intsD, ints_canonL, canonL_map clD cl_canon l]
/-! The document's own function. -/
def GC (h : Heap) (d : D) (l : List Clm) : Prop := (l = [] ∧ d = .val (.slice none 0 0)) ∨ ∃ k, d = .slr k 0 l.length 5 none ∧ h.get k = some (.cells 96 (l.flatMap clC)) ∧ k < h.next
theorem GC.keep {h h' : Heap} {d : D} {l : List Clm} (g : GC h d l) (hn : h.next ≤ h'.next) (hk : ∀ k, k < h.next → h'.get k = h.get k) : GC h' d l := by
  rcases g with g | ⟨k, a, b, c⟩
  · exact .inl g
  · exact .inr ⟨k, a, by rw [hk k c]; exact b, by omega⟩
theorem GC.frz {h : Heap} {d : D} {l : List Clm} (g : GC h d l) : Fz h d l := by
  rcases g with ⟨rfl, rfl⟩ | ⟨k, rfl, g, _⟩
  · exact ⟨[], rfl⟩
  · exact Fz.of g rfl (List.take_of_length_le (by rw [cells_len]; omega))
theorem outF_snoc (l : List Clm) (bl : List Int) (c : Clm) : outF (l ++ [c]) bl = if hasI bl c.by_ = true then outF l bl else outF l bl ++ [c] := by
  unfold outF
  rw [List.filter_append]
  cases h : hasI bl c.by_ <;> simp [h]
theorem outF_le (l : List Clm) (bl : List Int) : (outF l bl).length ≤ l.length := List.length_filter_le _ _
def OI (l : List Clm) (bl : List Int) (k : Nat) (s : St) : Prop := ∃ (x : Env 25) (h : Heap) (i : Nat) (d : D), s = ⟨x.l, h, []⟩ ∧ i + k = l.length ∧ x.v 8 = clsD l ∧ x.v 9 = D.int l.length ∧ x.v 10 = D.int i ∧ x.v 1 = intsD bl ∧ x.v 5 = d ∧ GC h d (outF (l.take i) bl) ∧ h.Fr
def EI (l : List Clm) (k : Nat) (s : St) : Prop := ∃ (x : Env 26) (h : Heap) (i : Nat), s = ⟨x.l, h, []⟩ ∧ i + k = l.length ∧ x.v 0 = clsD l ∧ x.v 1 = clsD l ∧ x.v 12 = D.int l.length ∧ x.v 13 = D.int i
end Go.Proofs.YtlfknfknlcgfcaaGreatDoor
