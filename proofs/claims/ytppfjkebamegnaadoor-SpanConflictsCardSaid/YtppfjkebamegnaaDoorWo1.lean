/- Numbers in lists and in sets; the first claim of a source that is in a set. -/
import Derived.Test.YtppfjkebamegnaaDoorTz
import Derived.Test.YtppfjkebamegnaaDoorBnd
namespace Go.Proofs.YtppfjkebamegnaaDoor
open Go Go.Em
set_option maxRecDepth 100000
def ixP {α : Type} (P : α → Bool) : Nat → List α → Int
  | _, [] => -1
  | i, r :: l => if P r = true then (i : Int) else ixP P (i + 1) l
theorem ixP_any {α : Type} (P : α → Bool) : ∀ (l : List α) (i : Nat), decide (ixP P i l ≥ 0) = l.any P
  | [], _ => rfl
  | r :: l, i => by
    unfold ixP
    by_cases h : P r = true
    · rw [if_pos h]; simp [h]
    · rw [if_neg h, ixP_any P l]; simp [h]
theorem ixP_ge {α : Type} (P : α → Bool) : ∀ (l : List α) (i : Nat), (ixP P i l = -1 ∧ ∀ v ∈ l, P v = false) ∨ ∃ j : Nat, ixP P i l = ((i + j : Nat) : Int) ∧ j < l.length ∧ (∀ v ∈ l.take j, P v = false) ∧ ∃ (h : j < l.length), P l[j] = true
  | [], _ => .inl ⟨rfl, fun _ h => by cases h⟩
  | r :: l, i => by
    unfold ixP
    by_cases h : P r = true
    · rw [if_pos h]
      exact .inr ⟨0, by simp, by simp, fun v hv => by simp at hv, by simp, h⟩
    · rw [if_neg h]
      have h' : P r = false := by simpa using h
      rcases ixP_ge P l (i + 1) with ⟨h1, h2⟩ | ⟨j, h1, h2, h3, h4, h5⟩
      · exact .inl ⟨h1, fun v hv => by rcases List.mem_cons.1 hv with rfl | hv; exact h'; exact h2 v hv⟩
      · refine .inr ⟨j + 1, by rw [h1]; congr 1; omega, by simp; omega, fun v hv => ?_, by simp; omega, by simpa using h5⟩
        rw [List.take_succ_cons] at hv
        rcases List.mem_cons.1 hv with rfl | hv
        · exact h'
        · exact h3 v hv
def hasI (l : List Int) (v : Int) : Bool := l.any (· == v)
theorem hasI_mem {l : List Int} {v : Int} : hasI l v = true ↔ v ∈ l := by unfold hasI; simp
def XI (v : Int) (l : List Int) (k : Nat) (s : St) : Prop := ∃ (x : Env 19) (h : Heap) (i : Nat), s = ⟨x.l, h, []⟩ ∧ i + k = l.length ∧ x.v 7 = intsD l ∧ x.v 1 = D.int v ∧ x.v 8 = D.int l.length ∧ x.v 9 = D.int i ∧ ixP (· == v) 0 l = ixP (· == v) i (l.drop i)
def XQ (v : Int) (l : List Int) (x : Ex) (s : St) : Prop :=
  (x = .exit 0 ∧ ixP (· == v) 0 l = -1 ∧ ∃ (x : Env 19) (h : Heap), s = ⟨x.l, h, []⟩) ∨ (x = .ret ∧ ∃ (x : Env 19) (h : Heap), s = ⟨x.l, h, []⟩ ∧ x.v 4 = D.int (ixP (· == v) 0 l))
set_option maxHeartbeats 1000000 in
theorem index_round (v : Int) (l : List Int) (hl : l.length ≤ 20000000000000) : ∀ n, 0 ≤ n → ∀ k s, XI v l k s → Res (k56l0.ev ⟨pg, 19, none⟩ (rc pg n) s) (Rnd (XI v l) (XQ v l) k) := by
  rintro n hn k s ⟨x, h, i, rfl, hik, v7, v1, v8, v9, ho⟩
  simp only [intsD] at v7
  by_cases hlt : i < l.length
  · obtain ⟨r, hr⟩ : ∃ r, l[i] = r := ⟨l[i], rfl⟩
    have hd : l.drop i = r :: l.drop (i + 1) := by rw [List.drop_eq_getElem_cons hlt, hr]
    rw [hd, ixP] at ho
    have hw1 : IntKind.i64.wrap ((i : Int) + 1) = (i : Int) + 1 := wrap_i64 (by omega) (by omega)
    by_cases he : (r == v) = true
    · rw [if_pos he] at ho
      simp [k56l0, v1, v7, v8, v9, hlt, hr, D.cells, he]
      exact .inr ⟨rfl, _, _, rfl, by simp [ho]⟩
    · rw [if_neg he] at ho
      have he' : (r == v) = false := by simpa using he
      simp [k56l0, v1, v7, v8, v9, hlt, hr, D.cells, he', hw1]
      exact ⟨k - 1, by omega, _, _, i + 1, rfl, by omega, by simp [v7, intsD], by simp [v1], by simp [v8], by simp, ho⟩
  · simp [k56l0, v8, v9, hlt]
    have hi : i = l.length := by omega
    rw [hi, List.drop_length] at ho
    exact .inl ⟨rfl, ho, _, _, rfl⟩
theorem index_run (l : List Int) (hl : l.length ≤ 20000000000000) (v : Int) {n : Nat} (hn : l.length + 5 ≤ n) : pureCall (rc pg n) 56 [intsD l, D.int v] = some (.ret (D.int (ixP (· == v) 0 l))) := by
  obtain ⟨m, rfl, e⟩ := body (pg := pg) (f := 56) (args := [intsD l, D.int v]) (show 0 < n by omega) rfl rfl
  rw [e]
  simp [k56, Env.v_ini, intsD, ev_loop]
  refine Res.endsAfter (lp_rule 0 (XI v l) (XQ v l) (index_round v l hl) l.length m _ (by omega) ⟨_, _, 0, rfl, by omega, by simp [intsD], by simp [Env.v_ini], by simp, by simp, rfl⟩) ?_
  rintro x s (⟨rfl, ho, x, h, rfl⟩ | ⟨rfl, x, h, rfl, v4⟩)
  · simp [ho]
  · simp [v4]
def setF (l : List Int) : List Int := l.foldl (fun m n => if n ∈ m then m else m ++ [n]) []
theorem setF_snoc (l : List Int) (n : Int) : setF (l ++ [n]) = if n ∈ setF l then setF l else setF l ++ [n] := by unfold setF; rw [List.foldl_append]; rfl
def mapD (l : List Int) : List (D × D) := l.map fun n => (D.int n, D.bool true)
theorem find_in (v : Int) : ∀ (l : List Int) (i : Nat), (v ∉ l ∧ findD .int (D.int v) (mapD l) i = some none) ∨ ∃ j, findD .int (D.int v) (mapD l) i = some (some (i + j, D.bool true)) ∧ ∃ (h : j < l.length), l[j] = v
  | [], i => .inl ⟨by simp, rfl⟩
  | a :: l, i => by
    have e : findD .int (D.int v) (mapD (a :: l)) i = if (v == a) = true then some (some (i, D.bool true)) else findD .int (D.int v) (mapD l) (i + 1) := by
      simp only [mapD, List.map_cons]
      conv => lhs; unfold findD
      simp only [cellEq, if_true]
      cases v == a <;> rfl
    rw [e]
    by_cases h : v = a
    · rw [if_pos (by simp [h])]
      exact .inr ⟨0, rfl, by simp, by simp [h]⟩
    · rw [if_neg (by simpa using h)]
      rcases find_in v l (i + 1) with ⟨h1, h2⟩ | ⟨j, h1, h2, h3⟩
      · exact .inl ⟨by simp [h, h1], h2⟩
      · exact .inr ⟨j + 1, by rw [h1, show i + 1 + j = i + (j + 1) by omega], by simp; omega, by simpa using h3⟩
end Go.Proofs.YtppfjkebamegnaaDoor
/- Claims are taken out of a list, in its caller's heap. -/
namespace Go.Proofs.YtppfjkebamegnaaDoor
open Go Go.Em
set_option maxRecDepth 100000
theorem callfz {pg : Pg} {R : Rc} {f : FuncId} {a : D} {args bs : List D} {ks : List Nat} {h : Heap} {o : Out} (hs : pg.sh f = false) (ha : each (Go.Em.frz h depth) (a :: args) = some (bs, ks)) (x : pureCall R f bs = some o) (hf : (ks.isEmpty || o.d.flat) = true) : call pg R f (a :: args) h = some (o, h) := by
  simp only [call, hs, Bool.false_eq_true, if_false, ha, pureA, pureS, orS, x, Option.map_some, hf, if_true]
theorem cells_len (l : List Clm) : (l.flatMap clC).length = l.length * 5 := length_flatMap clC (fun _ => rfl) l
theorem cells_canon (l : List Clm) : D.canonL (l.flatMap clC) = true := canonL_flatMap clC (fun c => by simp [clC]) l
theorem cells_chunk (l : List Clm) (n : Nat) (hn : n = l.length) : chunk 5 n (l.flatMap clC) = l.map clD := chunk_flatMap clC (by decide) (fun _ => rfl) l n hn
def TF (kc km k : Nat) (L : List Int) (h : Heap) : Prop := kc ≠ k ∧ km ≠ k ∧ h.get kc = some (.cells 102 [.mapr km]) ∧ h.get km = some (.map (mapD L))
theorem TF.keep {kc km k : Nat} {L : List Int} {h h' : Heap} (t : TF kc km k L h) (hk : ∀ j B, j ≠ k → h.get j = some B → h'.get j = some B) : TF kc km k L h' :=
  ⟨t.1, t.2.1, hk _ _ t.1 t.2.2.1, hk _ _ t.2.1 t.2.2.2⟩
theorem eachE_can (h : Heap) (n : Nat) : ∀ l : List Int, eachE (Go.Em.frz h (n + 1)) (mapD l) = some (mapD l, [])
  | [] => rfl
  | a :: l => by
    have := eachE_can h n l
    simp only [mapD, List.map_cons, eachE] at this ⊢
    rw [this]
    rfl
theorem TF.frz {kc km k : Nat} {L : List Int} {h : Heap} (t : TF kc km k L h) (n : Nat) : Go.Em.frz h (n + 3) (.ptr kc 0) = some (.eref [.map (mapD L)], [kc, km]) := by
  obtain ⟨_, _, h1, h2⟩ := t
  have g : Go.Em.frz h (n + 2) (.mapr km) = some (.map (mapD L), [km]) := by
    conv => lhs; unfold Go.Em.frz
    rw [if_neg (by simp [D.canon])]
    simp only [h2, eachE_can h n L, Option.map_some]
  rw [frz_ptr, h1, frzP_cells, List.drop_zero, each_cons, g, each_nil, eachK_some]; rfl
def Fz (h : Heap) (d : D) (l : List Clm) : Prop := ∃ ks, Go.Em.frz h 24 d = some (clsD l, ks)
theorem Fz.of {h : Heap} {k m : Nat} {c : Option Nat} {ty : TypeId} {cs : List D} {l : List Clm} (hg : h.get k = some (.cells ty cs)) (hm : m = l.length) (hc : cs.take (m * 5) = l.flatMap clC) : Fz h (.slr k 0 m 5 c) l := by
  have hea := each_canon h 22 (l.flatMap clC) (cells_canon l)
  have hle : m * 5 ≤ cs.length := by
    have := congrArg List.length hc
    rw [List.length_take, cells_len] at this; omega
  refine ⟨[k], ?_⟩
  rw [frz_slr, hg, frzS_cells]
  simp only [List.drop_zero, hc, hea, Option.map_some, cells_chunk l m hm, Nat.zero_add]
  rw [if_pos ⟨hle, by omega⟩]; rfl
end Go.Proofs.YtppfjkebamegnaaDoor
/- Claims without those of some sources: by the program and by the document. -/
namespace Go.Proofs.YtppfjkebamegnaaDoor
open Go Go.Em
set_option maxRecDepth 100000
theorem set_mapD (L : List Int) (j : Nat) (v : Int) (hj : j < L.length) (h : L[j] = v) : (mapD L).set j (D.int v, D.bool true) = mapD L := by
  have : (mapD L)[j]'(by simpa [mapD] using hj) = (D.int v, D.bool true) := by simp [mapD, h]
  rw [← this]; exact List.set_getElem_self _
theorem mapD_snoc (L : List Int) (v : Int) : mapD L ++ [(D.int v, D.bool true)] = mapD (L ++ [v]) := by simp [mapD]
def Un (h0 h : Heap) : Prop := h0.next ≤ h.next ∧ ∀ j, j < h0.next → h.raw j = h0.raw j
def SI (h0 : Heap) (l : List Int) (k : Nat) (s : St) : Prop := ∃ (x : Env 19) (h : Heap) (i b : Nat), s = ⟨x.l, h, []⟩ ∧ i + k = l.length ∧ x.v 9 = intsD l ∧ x.v 10 = D.int l.length ∧ x.v 11 = D.int i ∧ x.v 3 = .mapr b ∧ h.get b = some (.map (mapD (setF (l.take i)))) ∧ b < h.next ∧ h.Fr ∧ h0.next ≤ b ∧ Un h0 h
set_option maxHeartbeats 1000000 in
theorem set_round (h0 : Heap) (l : List Int) (hl : l.length ≤ 20000000000000) : ∀ n, 0 ≤ n → ∀ k s, SI h0 l k s → Res (k75l0.ev ⟨pg, 19, none⟩ (rc pg n) s) (Rnd (SI h0 l) (fun x s => x = .exit 0 ∧ SI h0 l 0 s) k) := by
  rintro n hn k s ⟨x, h, i, b, rfl, hik, v9, v10, v11, v3, hg, hb, hf, hb0, hu1, hu2⟩
  simp only [intsD] at v9
  by_cases hi : i < l.length
  · obtain ⟨c, hc⟩ : ∃ c, l[i] = c := ⟨_, rfl⟩
    have htk : l.take (i + 1) = l.take i ++ [c] := by rw [List.take_add_one, List.getElem?_eq_getElem hi, hc]; rfl
    have hsn := setF_snoc (l.take i) c
    rw [← htk] at hsn
    have w1 : IntKind.i64.wrap ((i : Int) + 1) = (i : Int) + 1 := wrap_i64 (by omega) (by omega)
    rcases find_in c (setF (l.take i)) 0 with ⟨h1, h2⟩ | ⟨j, h1, h2, h3⟩
    · rw [if_neg h1] at hsn
      have hs2 := mapD_snoc (setF (l.take i)) c
      simp [-findD, k75l0, v9, v10, v11, v3, hi, hc, D.cells, w1, hg, h2, hs2]
      refine ⟨k - 1, by omega, _, _, i + 1, b, rfl, by omega, by simp [v9, intsD], by simp [v10], by simp, by simp [v3], by simp [hsn], by simp; omega, ?_, hb0, by simp; omega, fun q hq => ?_⟩
      · repeat' first | exact hf | apply Heap.Fr.bump | apply Heap.Fr.set
        all_goals (simp <;> omega)
      · have := hu2 q hq
        simp [show q ≠ b by omega, this]
    · rw [if_pos (by rw [← h3]; exact List.getElem_mem h2)] at hsn
      have hs2 := set_mapD (setF (l.take i)) j c h2 h3
      rw [Nat.zero_add] at h1
      simp [-findD, k75l0, v9, v10, v11, v3, hi, hc, D.cells, w1, hg, h1, hs2]
      refine ⟨k - 1, by omega, _, _, i + 1, b, rfl, by omega, by simp [v9, intsD], by simp [v10], by simp, by simp [v3], by simp [hsn], by simp; omega, ?_, hb0, by simp; omega, fun q hq => ?_⟩
      · repeat' first | exact hf | apply Heap.Fr.bump | apply Heap.Fr.set
        all_goals (simp <;> omega)
      · have := hu2 q hq
        simp [show q ≠ b by omega, this]
  · simp [k75l0, v10, v11, hi]
    exact ⟨_, _, i, b, rfl, by omega, by simp [v9, intsD], by simp [v10], by simp [v11], by simp [v3], by simp [hg], by simp; omega, hf.bump _, hb0, by simp; omega, fun q hq => by simpa using hu2 q hq⟩
theorem Res.tailG {β : Type} {F : β → D} {o : Option (Ex × St)} {id : Nat} {k : St → Option (Ex × St)} {R : Rc} {rs : List (ResultVar × Bool × Nat)} {P : Ex → St → Prop} {C : β → Heap → Prop} (h : Res o P)
    (hk : ∀ x s, P x s → ∃ d h', endH R rs (andThen (blockK id (some (x, s))) k) = some (.ret (F d), h') ∧ C d h') : ∃ d h', endH R rs (andThen (blockK id o) k) = some (.ret (F d), h') ∧ C d h' := by
  obtain ⟨x, s, rfl, p⟩ := h; exact hk x s p
theorem set_sh (l : List Int) (hl : l.length ≤ 20000000000000) {h : Heap} (hf : h.Fr) {n : Nat} (hn : l.length + 5 ≤ n) : ∃ b h', (rc pg n).fn 75 [intsD l] h = some (.ret (.mapr b), h') ∧ h'.get b = some (.map (mapD (setF l))) ∧ b < h'.next ∧ h'.Fr ∧ h.next ≤ b ∧ Un h h' := by
  obtain ⟨m, rfl, e⟩ := fn_body (pg := pg) (f := 75) (args := [intsD l]) (h := h) (show 0 < n by omega) rfl rfl
  rw [e]
  have hfr : ∀ j, h.raw (h.next + j) = none := fun j => hf _ (by omega)
  simp [k75, Env.v_ini, intsD, ev_loop, hfr, Nat.add_assoc]
  refine Res.tailG (F := D.mapr) (C := fun b h' => h'.get b = some (.map (mapD (setF l))) ∧ b < h'.next ∧ h'.Fr ∧ h.next ≤ b ∧ Un h h') (lp_rule 0 (SI h l) _ (set_round h l hl) l.length m _ (by omega) ⟨_, _, 0, h.next + 27, rfl, by omega, by simp [intsD], by simp, by simp, by simp, by simp [setF, mapD], by simp <;> omega, ?_, by omega, by simp; omega, fun q hq => by simp; omega⟩) ?_
  · repeat' first | exact hf | apply Heap.Fr.bump | apply Heap.Fr.set
    all_goals (simp <;> omega)
  · rintro x s ⟨rfl, x, h', i, b, rfl, hi, v9, v10, v11, v3, hg, hb, hf, hb0, hu1, hu2⟩
    have hil : i = l.length := by omega
    subst hil
    rw [List.take_length] at hg
    refine ⟨b, h'.bump 19, by simp [v3], by simpa using hg, by simp; omega, hf.bump _, hb0, by simp; omega, fun q hq => by simpa using hu2 q hq⟩
theorem two_canon (l : List Clm) (bl : List Int) : D.canonL [clsD l, intsD bl] = true := by simp [clsD, intsD, ints_canonL, canonL_map clD cl_canon l]
/-! The document's own function. -/
def GC (h : Heap) (d : D) (l : List Clm) : Prop := (l = [] ∧ d = .val (.slice none 0 0)) ∨ ∃ k, d = .slr k 0 l.length 5 none ∧ h.get k = some (.cells 42 (l.flatMap clC)) ∧ k < h.next
theorem GC.keep {h h' : Heap} {d : D} {l : List Clm} (g : GC h d l) (hn : h.next ≤ h'.next) (hk : ∀ k, k < h.next → h'.get k = h.get k) : GC h' d l := by
  rcases g with g | ⟨k, a, b, c⟩
  · exact .inl g
  · exact .inr ⟨k, a, by rw [hk k c]; exact b, by omega⟩
theorem GC.frz {h : Heap} {d : D} {l : List Clm} (g : GC h d l) : Fz h d l := by
  rcases g with ⟨rfl, rfl⟩ | ⟨k, rfl, g, _⟩
  · exact ⟨[], rfl⟩
  · exact Fz.of g rfl (List.take_of_length_le (by rw [cells_len]; omega))
end Go.Proofs.YtppfjkebamegnaaDoor
