/- Numbers in lists and in sets; the first claim of a source that is in a set. -/
import Derived.Test.YtgbkdjlekfjkfaaGreatDoorTz
import Derived.Test.YtgbkdjlekfjkfaaGreatDoorBnd
namespace Go.Proofs.YtgbkdjlekfjkfaaGreatDoor
open Go Go.Em
set_option maxRecDepth 100000
def ixP {α : Type} (P : α → Bool) : Nat → List α → Int
  | _, [] => -1
  | i, r :: l => if P r = true then (i : Int) else ixP P (i + 1) l
theorem ixP_any {α : Type} (P : α → Bool) : ∀ (l : List α) (i : Nat), decide (ixP P i l ≥ 0) = l.any P
  | [], _ => rfl
  | r :: l, i => by
    unfold ixP
    by_cases h : P r = true
    · rw [if_pos h]; simp [h]
    · rw [if_neg h, ixP_any P l]; simp [h]
theorem ixP_ge {α : Type} (P : α → Bool) : ∀ (l : List α) (i : Nat), (ixP P i l = -1 ∧ ∀ v ∈ l, P v = false) ∨ ∃ j : Nat, ixP P i l = ((i + j : Nat) : Int) ∧ j < l.length ∧ (∀ v ∈ l.take j, P v = false) ∧ ∃ (h : j < l.length), P l[j] = true
  | [], _ => .inl ⟨rfl, fun _ h => by cases h⟩
  | r :: l, i => by
    unfold ixP
    by_cases h : P r = true
    · rw [if_pos h]
      exact .inr ⟨0, by simp, by simp, fun v hv => by simp at hv, by simp, h⟩
    · rw [if_neg h]
      have h' : P r = false := by simpa using h
      rcases ixP_ge P l (i + 1) with ⟨h1, h2⟩ | ⟨j, h1, h2, h3, h4, h5⟩
      · exact .inl ⟨h1, fun v hv => by rcases List.mem_cons.1 hv with rfl | hv; exact h'; exact h2 v hv⟩
      · refine .inr ⟨j + 1, by rw [h1]; congr 1; omega, by simp; omega, fun v hv => ?_, by simp; omega, by simpa using h5⟩
        rw [List.take_succ_cons] at hv
        rcases List.mem_cons.1 hv with rfl | hv
        · exact h'
        · exact h3 v hv
def hasI (l : List Int) (v : Int) : Bool := l.any (· == v)
theorem hasI_mem {l : List Int} {v : Int} : hasI l v = true ↔ v ∈ l := by unfold hasI; simp
def XI (v : Int) (l : List Int) (k : Nat) (s : St) : Prop := ∃ (x : Env 19) (h : Heap) (i : Nat), s = ⟨x.l, h, []⟩ ∧ i + k = l.length ∧ x.v 7 = intsD l ∧ x.v 1 = D.int v ∧ x.v 8 = D.int l.length ∧ x.v 9 = D.int i ∧ ixP (· == v) 0 l = ixP (· == v) i (l.drop i)
def XQ (v : Int) (l : List Int) (x : Ex) (s : St) : Prop :=
  (x = .exit 0 ∧ ixP (· == v) 0 l = -1 ∧ ∃ (x : Env 19) (h : Heap), s = ⟨x.l, h, []⟩) ∨ (x = .ret ∧ ∃ (x : Env 19) (h : Heap), s = ⟨x.l, h, []⟩ ∧ x.v 4 = D.int (ixP (· == v) 0 l))
set_option maxHeartbeats 1000000 in
theorem index_round (v : Int) (l : List Int) (hl : l.length ≤ 20000000000000) : ∀ n, 0 ≤ n → ∀ k s, XI v l k s → Res (k77l0.ev ⟨pg, 19, none⟩ (rc pg n) s) (Rnd (XI v l) (XQ v l) k) := by
  rintro n hn k s ⟨x, h, i, rfl, hik, v7, v1, v8, v9, ho⟩
  simp only [intsD] at v7
  by_cases hlt : i < l.length
  · obtain ⟨r, hr⟩ : ∃ r, l[i] = r := ⟨l[i], rfl⟩
    have hd : l.drop i = r :: l.drop (i + 1) := by rw [List.drop_eq_getElem_cons hlt, hr]
    rw [hd, ixP] at ho
    have hw1 : IntKind.i64.wrap ((i : Int) + 1) = (i : Int) + 1 := wrap_i64 (by omega) (by omega)
    by_cases he : (r == v) = true
    · rw [if_pos he] at ho
      simp [k77l0, v1, v7, v8, v9, hlt, hr, D.cells, he]
      exact .inr ⟨rfl, _, _, rfl, by simp [ho]⟩
    · rw [if_neg he] at ho
      have he' : (r == v) = false := by simpa using he
      simp [k77l0, v1, v7, v8, v9, hlt, hr, D.cells, he', hw1]
      exact ⟨k - 1, by omega, _, _, i + 1, rfl, by omega, by simp [v7, intsD], by simp [v1], by simp [v8], by simp, ho⟩
  · simp [k77l0, v8, v9, hlt]
    have hi : i = l.length := by omega
    rw [hi, List.drop_length] at ho
    exact .inl ⟨rfl, ho, _, _, rfl⟩
theorem index_run (l : List Int) (hl : l.length ≤ 20000000000000) (v : Int) {n : Nat} (hn : l.length + 5 ≤ n) : pureCall (rc pg n) 77 [intsD l, D.int v] = some (.ret (D.int (ixP (· == v) 0 l))) := by
  obtain ⟨m, rfl, e⟩ := body (pg := pg) (f := 77) (args := [intsD l, D.int v]) (show 0 < n by omega) rfl rfl
  rw [e]
  simp [k77, Env.v_ini, intsD, ev_loop]
  refine Res.endsAfter (lp_rule 0 (XI v l) (XQ v l) (index_round v l hl) l.length m _ (by omega) ⟨_, _, 0, rfl, by omega, by simp [intsD], by simp [Env.v_ini], by simp, by simp, rfl⟩) ?_
  rintro x s (⟨rfl, ho, x, h, rfl⟩ | ⟨rfl, x, h, rfl, v4⟩)
  · simp [ho]
  · simp [v4]
def setF (l : List Int) : List Int := l.foldl (fun m n => if n ∈ m then m else m ++ [n]) []
theorem setF_snoc (l : List Int) (n : Int) : setF (l ++ [n]) = if n ∈ setF l then setF l else setF l ++ [n] := by unfold setF; rw [List.foldl_append]; rfl
theorem foldl_set (x : Int) : ∀ (l m : List Int), x ∈ l.foldl (fun m n => if n ∈ m then m else m ++ [n]) m ↔ x ∈ m ∨ x ∈ l
  | [], m => by simp
  | n :: l, m => by
    rw [List.foldl_cons, foldl_set x l]
    by_cases h : n ∈ m
    · rw [if_pos h, List.mem_cons]
      constructor
      · rintro (a | a)
        · exact .inl a
        · exact .inr (.inr a)
      · rintro (a | rfl | a)
        · exact .inl a
        · exact .inl h
        · exact .inr a
    · rw [if_neg h, List.mem_append, List.mem_singleton, List.mem_cons, or_assoc]
theorem setF_mem (l : List Int) (x : Int) : x ∈ setF l ↔ x ∈ l := by unfold setF; rw [foldl_set]; simp
def mapD (l : List Int) : List (D × D) := l.map fun n => (D.int n, D.bool true)
theorem find_in (v : Int) : ∀ (l : List Int) (i : Nat), (v ∉ l ∧ findD .int (D.int v) (mapD l) i = some none) ∨ ∃ j, findD .int (D.int v) (mapD l) i = some (some (i + j, D.bool true)) ∧ ∃ (h : j < l.length), l[j] = v
  | [], i => .inl ⟨by simp, rfl⟩
  | a :: l, i => by
    have e : findD .int (D.int v) (mapD (a :: l)) i = if (v == a) = true then some (some (i, D.bool true)) else findD .int (D.int v) (mapD l) (i + 1) := by
      simp only [mapD, List.map_cons]
      conv => lhs; unfold findD
      simp only [cellEq, if_true]
      cases v == a <;> rfl
    rw [e]
    by_cases h : v = a
    · rw [if_pos (by simp [h])]
      exact .inr ⟨0, rfl, by simp, by simp [h]⟩
    · rw [if_neg (by simpa using h)]
      rcases find_in v l (i + 1) with ⟨h1, h2⟩ | ⟨j, h1, h2, h3⟩
      · exact .inl ⟨by simp [h, h1], h2⟩
      · exact .inr ⟨j + 1, by rw [h1, show i + 1 + j = i + (j + 1) by omega], by simp; omega, by simpa using h3⟩
theorem find_has (v : Int) (l : List Int) : (hasI l v = false ∧ findD .int (D.int v) (mapD l) 0 = some none) ∨ (hasI l v = true ∧ ∃ j, findD .int (D.int v) (mapD l) 0 = some (some (j, D.bool true)) ∧ ∃ (h : j < l.length), l[j] = v) := by
  rcases find_in v l 0 with ⟨h1, h2⟩ | ⟨j, h1, h2, h3⟩
  · refine .inl ⟨?_, h2⟩
    cases h : hasI l v with
    | false => rfl
    | true => exact absurd (hasI_mem.1 h) h1
  · refine .inr ⟨hasI_mem.2 (by rw [← h3]; exact List.getElem_mem h2), j, by rw [h1, Nat.zero_add], h2, h3⟩
theorem closure_run (L : List Int) (c : Clm) {n : Nat} (hn : 1 ≤ n) : pureCall (rc pg n) 80 [clD c, .eref [.map (mapD L)]] = some (.ret (D.bool (hasI L c.by_))) := by
  obtain ⟨m, rfl, e⟩ := body (pg := pg) (f := 80) (args := [clD c, .eref [.map (mapD L)]]) (show 0 < n by omega) rfl rfl
  rw [e]
  rcases find_has c.by_ L with ⟨h1, h2⟩ | ⟨h1, j, h2, _⟩
  · simp [-findD, k80, Env.v_ini, clD, clC, D.cells, D.one, h1, h2, D.of]
  · simp [-findD, k80, Env.v_ini, clD, clC, D.cells, D.one, h1, h2]
theorem mapE : ∀ l : List Int, D.canonE (mapD l) = true
  | [] => rfl
  | a :: l => by
    have := mapE l
    simp only [mapD, List.map_cons, D.canonE] at this ⊢
    rw [this]; rfl
theorem map_canon (l : List Int) : (D.map (mapD l)).canon = true := by
  unfold D.canon; exact mapE l
def cloD (L : List Int) : D := .fn (.func 80) [] [.eref [.map (mapD L)]]
end Go.Proofs.YtgbkdjlekfjkfaaGreatDoor
/- Claims are taken out of a list, in its caller's heap. -/
namespace Go.Proofs.YtgbkdjlekfjkfaaGreatDoor
open Go Go.Em
set_option maxRecDepth 100000
theorem callfz {pg : Pg} {R : Rc} {f : FuncId} {a : D} {args bs : List D} {ks : List Nat} {h : Heap} {o : Out} (hs : pg.sh f = false) (ha : each (Go.Em.frz h depth) (a :: args) = some (bs, ks)) (x : pureCall R f bs = some o) (hf : (ks.isEmpty || o.d.flat) = true) : call pg R f (a :: args) h = some (o, h) := by
  simp only [call, hs, Bool.false_eq_true, if_false, ha, pureA, pureS, orS, x, Option.map_some, hf, if_true]
theorem cells_len (l : List Clm) : (l.flatMap clC).length = l.length * 5 := length_flatMap clC (fun _ => rfl) l
theorem cells_canon (l : List Clm) : D.canonL (l.flatMap clC) = true := canonL_flatMap clC (fun c => by simp [clC]) l
theorem cells_chunk (l : List Clm) (n : Nat) (hn : n = l.length) : chunk 5 n (l.flatMap clC) = l.map clD := chunk_flatMap clC (by decide) (fun _ => rfl) l n hn
theorem cls_cells : ∀ l : List Clm, (l.map clD).flatMap D.cells = l.flatMap clC
  | [] => rfl
  | r :: l => by rw [List.map_cons, List.flatMap_cons, List.flatMap_cons, cls_cells l]; rfl
theorem cls_one (l : List Clm) : (l.flatMap clC).all D.one = true := by
  rw [List.all_eq_true]
  intro d hd
  obtain ⟨r, _, h⟩ := List.mem_flatMap.1 hd
  simp [clC] at h
  rcases h with rfl | rfl | rfl | rfl | rfl <;> rfl
theorem cells_get (l : List Clm) (j : Nat) (hj : j < l.length) : ((l.flatMap clC).drop (j * 5)).take 5 = clC l[j] := by
  induction l generalizing j with
  | nil => simp at hj
  | cons a l ih =>
    cases j with
    | zero => simp [List.take_append]; rfl
    | succ j =>
      rw [List.flatMap_cons, Nat.succ_mul, Nat.add_comm, ← List.drop_drop]
      have : (clC a ++ l.flatMap clC).drop 5 = l.flatMap clC := List.drop_left' rfl
      rw [this]
      simpa using ih j (by simpa using hj)
def TF (kc km k : Nat) (L : List Int) (h : Heap) : Prop := kc ≠ k ∧ km ≠ k ∧ h.get kc = some (.cells 114 [.mapr km]) ∧ h.get km = some (.map (mapD L))
theorem TF.keep {kc km k : Nat} {L : List Int} {h h' : Heap} (t : TF kc km k L h) (hk : ∀ j B, j ≠ k → h.get j = some B → h'.get j = some B) : TF kc km k L h' :=
  ⟨t.1, t.2.1, hk _ _ t.1 t.2.2.1, hk _ _ t.2.1 t.2.2.2⟩
theorem eachE_can (h : Heap) (n : Nat) : ∀ l : List Int, eachE (Go.Em.frz h (n + 1)) (mapD l) = some (mapD l, [])
  | [] => rfl
  | a :: l => by
    have := eachE_can h n l
    simp only [mapD, List.map_cons, eachE] at this ⊢
    rw [this]
    rfl
theorem TF.frz {kc km k : Nat} {L : List Int} {h : Heap} (t : TF kc km k L h) (n : Nat) : Go.Em.frz h (n + 3) (.ptr kc 0) = some (.eref [.map (mapD L)], [kc, km]) := by
  obtain ⟨_, _, h1, h2⟩ := t
  have g : Go.Em.frz h (n + 2) (.mapr km) = some (.map (mapD L), [km]) := by
    conv => lhs; unfold Go.Em.frz
    rw [if_neg (by simp [D.canon])]
    simp only [h2, eachE_can h n L, Option.map_some]
  rw [frz_ptr, h1, frzP_cells, List.drop_zero, each_cons, g, each_nil, eachK_some]; rfl
def XwI (L : List Int) (l : List Clm) (k : Nat) (s : St) : Prop := ∃ (x : Env 19) (h : Heap) (i : Nat), s = ⟨x.l, h, []⟩ ∧ i + k = l.length ∧ x.v 0 = clsD l ∧ x.v 1 = cloD L ∧ x.v 7 = D.int l.length ∧ x.v 8 = D.int i ∧ ixP (fun c => hasI L c.by_) 0 l = ixP (fun c => hasI L c.by_) i (l.drop i)
def XwQ (L : List Int) (l : List Clm) (x : Ex) (s : St) : Prop :=
  (x = .exit 0 ∧ ixP (fun c => hasI L c.by_) 0 l = -1 ∧ ∃ (x : Env 19) (h : Heap), s = ⟨x.l, h, []⟩) ∨ (x = .ret ∧ ∃ (x : Env 19) (h : Heap), s = ⟨x.l, h, []⟩ ∧ x.v 4 = D.int (ixP (fun c => hasI L c.by_) 0 l))
set_option maxHeartbeats 1000000 in
theorem ixw_round (L : List Int) (l : List Clm) (hl : l.length ≤ 20000000000000) : ∀ n, 1 ≤ n → ∀ k s, XwI L l k s → Res (k125l0.ev ⟨pg, 19, none⟩ (rc pg n) s) (Rnd (XwI L l) (XwQ L l) k) := by
  rintro n hn k s ⟨x, h, i, rfl, hik, v0, v1, v7, v8, ho⟩
  have hp := fun c h => call_of (h := h) (pg := pg) (f := 80) (args := [clD c, .eref [.map (mapD L)]]) rfl (by have := map_canon L; simp only [D.canon] at this; simp [cl_canon, this]) (@closure_run L c n hn)
  simp only [clsD, cloD] at v0 v1
  by_cases hlt : i < l.length
  · obtain ⟨r, hr⟩ : ∃ r, l[i] = r := ⟨l[i], rfl⟩
    have hd : l.drop i = r :: l.drop (i + 1) := by rw [List.drop_eq_getElem_cons hlt, hr]
    rw [hd, ixP] at ho
    have hw1 : IntKind.i64.wrap ((i : Int) + 1) = (i : Int) + 1 := wrap_i64 (by omega) (by omega)
    have hpr := fun h => hp r h
    simp only [clD, clC] at hpr
    cases he : hasI L r.by_ with
    | true =>
      simp only [he, if_true] at ho
      simp [k125l0, v0, v1, v7, v8, hlt, hr, clD, clC, D.cells, he, hpr]
      exact .inr ⟨rfl, _, _, rfl, by simp [ho]⟩
    | false =>
      simp only [he, Bool.false_eq_true, if_false] at ho
      simp [k125l0, v0, v1, v7, v8, hlt, hr, clD, clC, D.cells, he, hpr, hw1]
      exact ⟨k - 1, by omega, _, _, i + 1, rfl, by omega, by simp [v0, clsD], by simp [v1, cloD], by simp [v7], by simp, ho⟩
  · simp [k125l0, v7, v8, hlt]
    have hi : i = l.length := by omega
    rw [hi, List.drop_length] at ho
    exact .inl ⟨rfl, ho, _, _, rfl⟩
theorem ixw_run (L : List Int) (l : List Clm) (hl : l.length ≤ 20000000000000) {n : Nat} (hn : l.length + 10 ≤ n) : pureCall (rc pg n) 125 [clsD l, cloD L] = some (.ret (D.int (ixP (fun c => hasI L c.by_) 0 l))) := by
  obtain ⟨m, rfl, e⟩ := body (pg := pg) (f := 125) (args := [clsD l, cloD L]) (show 0 < n by omega) rfl rfl
  rw [e]
  simp [k125, Env.v_ini, clsD, ev_loop]
  refine Res.endsAfter (lp_rule 1 (XwI L l) (XwQ L l) (ixw_round L l hl) l.length m _ (by omega) ⟨_, _, 0, rfl, by omega, by simp [Env.v_ini, clsD], by simp [Env.v_ini], by simp, by simp, rfl⟩) ?_
  rintro x s (⟨rfl, ho, x, h, rfl⟩ | ⟨rfl, x, h, rfl, v4⟩)
  · simp [ho]
  · simp [v4]
def DwI (kc km k : Nat) (L : List Int) (l : List Clm) (m : Nat) (s : St) : Prop := ∃ (x : Env 42) (h : Heap) (i j : Nat) (cs : List Clm), s = ⟨x.l, h, []⟩ ∧ j + m = l.length ∧ i < j ∧ x.v 0 = .slr k 0 l.length 5 none ∧ x.v 1 = .fn (.func 80) [] [.ptr kc 0] ∧ x.v 5 = D.int i ∧ x.v 6 = D.int j ∧
  h.get k = some (.cells 70 (cs.flatMap clC)) ∧ cs.length = l.length ∧ cs.take i = (l.take j).filter (fun c => !hasI L c.by_) ∧ cs.drop j = l.drop j ∧ TF kc km k L h ∧ h.Fr ∧ k < h.next
theorem take_cells : ∀ (cs : List Clm) (i : Nat), (cs.flatMap clC).take (i * 5) = (cs.take i).flatMap clC
  | [], i => by simp
  | a :: cs, 0 => by simp
  | a :: cs, i + 1 => by
    rw [List.take_succ_cons, List.flatMap_cons, List.flatMap_cons, ← take_cells cs i, Nat.succ_mul, List.take_append, List.take_of_length_le (by simp [clC])]
    congr 2
theorem put_cells (cs : List Clm) (i : Nat) (_hi : i < cs.length) (r : Clm) : (cs.flatMap clC).take (i * 5) ++ (clC r ++ (cs.flatMap clC).drop (i * 5 + 5)) = (cs.take i ++ r :: cs.drop (i + 1)).flatMap clC := by
  have ht : ∀ (cs : List Clm) (i : Nat), (cs.flatMap clC).take (i * 5) = (cs.take i).flatMap clC := by
    intro cs
    induction cs with
    | nil => intro i; simp
    | cons a cs ih =>
      intro i
      cases i with
      | zero => simp
      | succ i =>
        rw [List.take_succ_cons, List.flatMap_cons, List.flatMap_cons, ← ih i, Nat.succ_mul, List.take_append, List.take_of_length_le (by simp [clC])]
        congr 2
  have hd : ∀ (cs : List Clm) (i : Nat), (cs.flatMap clC).drop (i * 5) = (cs.drop i).flatMap clC := by
    intro cs
    induction cs with
    | nil => intro i; simp
    | cons a cs ih =>
      intro i
      cases i with
      | zero => simp
      | succ i =>
        rw [List.drop_succ_cons, ← ih i, Nat.succ_mul, Nat.add_comm, ← List.drop_drop, List.flatMap_cons]
        have e5 : (clC a ++ cs.flatMap clC).drop 5 = cs.flatMap clC := List.drop_left' rfl
        rw [e5]
  rw [List.flatMap_append, List.flatMap_cons, ht, show i * 5 + 5 = (i + 1) * 5 by omega, hd]
set_option maxHeartbeats 8000000 in
theorem delw_round (kc km k : Nat) (L : List Int) (l : List Clm) (hl : l.length ≤ 20000000000000) : ∀ n, 2 ≤ n → ∀ m s, DwI kc km k L l m s → Res (k78l0.ev ⟨pg, 42, none⟩ (rc pg n) s) (Rnd (DwI kc km k L l) (fun x s => x = .exit 0 ∧ DwI kc km k L l 0 s) m) := by
  rintro n hn m s ⟨x, h, i, j, cs, rfl, hjm, hij, v0, v1, v5, v6, hg, hcl, hti, hdj, ht, hf, hk⟩
  have hfr : ∀ j, h.raw (h.next + j) = none := fun j => hf _ (by omega)
  have s1 : pg.sh 80 = false := rfl
  have ne1 : ∀ j, (k = h.next + j) = False := fun j => by simp; omega
  have ne2 : ∀ j, (h.next + j = k) = False := fun j => by simp; omega
  by_cases hlt : j < l.length
  · obtain ⟨r, hr⟩ : ∃ r, l[j] = r := ⟨l[j], rfl⟩
    have hjc : j < cs.length := by omega
    have hcj : cs[j] = r := by
      have h1 := List.drop_eq_getElem_cons hlt
      have h2 := List.drop_eq_getElem_cons hjc
      rw [hdj, h1] at h2
      rw [← hr]; exact (List.cons.inj h2).1.symm
    have hdj' : cs.drop (j + 1) = l.drop (j + 1) := by
      rw [← List.drop_drop, ← List.drop_drop, hdj]
    have htake : l.take (j + 1) = l.take j ++ [r] := by rw [List.take_add_one, List.getElem?_eq_getElem hlt, hr]; rfl
    have hw1 : IntKind.i64.wrap ((j : Int) + 1) = (j : Int) + 1 := wrap_i64 (by omega) (by omega)
    have hw2 : IntKind.i64.wrap ((i : Int) + 1) = (i : Int) + 1 := wrap_i64 (by omega) (by omega)
    have hil : i < l.length := by omega
    have hca : ∀ h', TF kc km k L h' → call pg (rc pg n) 80 [.agg (clC r), .ptr kc 0] h' = some (.ret (D.bool (hasI L r.by_)), h') := fun h' t => by
      have hz := t.frz 21
      have hc : Go.Em.frz h' 24 (.agg (clC r)) = some (.agg (clC r), []) := frz_canon (h := h') (cl_canon r)
      exact callfz (ks := [kc, km]) (bs := [clD r, .eref [.map (mapD L)]]) s1 (by rw [depth_is, each_cons, each_cons, hz, each_nil, eachK_some, hc, eachK_some]; rfl) (@closure_run L r n (by omega)) (by simp [Out.d, D.flat])
    have hgl := cells_len cs
    have hgc := cells_get cs j hjc
    rw [hcj] at hgc
    have hle : j * 5 + 5 ≤ cs.length * 5 := by omega
    have hle2 : i * 5 + 5 ≤ cs.length * 5 := by omega
    have hput := put_cells cs i (by omega) r
    have hcl1 : (clC r).length = 5 := rfl
    have hcl2 : (clC r).all D.one = true := rfl
    have hcl3 : ∀ x ∈ clC r, x.one = true := by simp [clC, D.one]
    obtain ⟨C, hC⟩ : ∃ C, C = clC r := ⟨_, rfl⟩
    rw [← hC] at hca hgc hput hcl1 hcl2 hcl3
    have hCt : C.take 5 = C := List.take_of_length_le (by omega)
    have tfa : ∀ (h' : Heap), (∀ j B, j ≠ k → h.get j = some B → h'.get j = some B) → TF kc km k L h' := fun h' hh => ht.keep hh
    have lt : ∀ j B, h.get j = some B → j < h.next := fun j B hB => by
      apply Decidable.byContradiction; intro hn'
      have := Heap.raw_of_get hB
      rw [hf j (by omega)] at this; cases this
    have hc1 := hca (((((h.bump 42).bump 42).set (h.next + 49) (some (.cells 70 [D.int 0, D.int 0, D.int 0, D.int 0, D.int 0]))).set (h.next + 49) (some (.cells 70 C))).bump 42) (tfa _ fun j B _ hB => by
      have := lt j B hB
      simp [show j ≠ h.next + 49 by omega, hB])
    have hkp : ∀ (h' : Heap), (∀ j B, j ≠ k → j < h.next → h.get j = some B → h'.get j = some B) → TF kc km k L h' := fun h' hh => ht.keep fun j B hne hB => hh j B hne (lt j B hB) hB
    cases he : hasI L r.by_ with
    | true =>
      rw [he] at hc1
      simp [k78l0, v0, v1, v6, hlt, hg, hgl, hle, hgc, hcl1, hcl2, hCt, hc1, hw1, D.cells, hfr, Nat.add_assoc]
      refine ⟨m - 1, by omega, _, _, i, j + 1, cs, rfl, by omega, by omega, by simp [v0], by simp [v1], by simp [v5], by simp, by simp [hg, ne1], hcl, ?_, hdj', hkp _ fun q B _ hq hB => ?_, ?_, by simp; omega⟩
      · rw [hti, htake, List.filter_append]; simp [he]
      · simp [show q ≠ h.next + 49 by omega, hB]
      · repeat' first | exact hf | apply Heap.Fr.bump | apply Heap.Fr.set
        all_goals (simp <;> omega)
    | false =>
      rw [he] at hc1
      simp [k78l0, v0, v1, v5, v6, hlt, hg, hgl, hle, hle2, hil, hgc, hcl1, hcl2, hCt, hc1, hw1, hw2, D.cells, hfr, Nat.add_assoc, ne1, hput]
      refine ⟨m - 1, by omega, _, _, i + 1, j + 1, cs.take i ++ r :: cs.drop (i + 1), rfl, by omega, by omega, by simp [v0], by simp [v1], by simp, by simp, by simp, by simp; omega, ?_, ?_, hkp _ fun q B hne hq hB => ?_, ?_, by simp; omega⟩
      · have e1 : (cs.take i).length = i := by rw [List.length_take]; omega
        rw [htake, List.filter_append, ← hti, List.take_append, e1, show i + 1 - i = 1 by omega, List.take_of_length_le (show (cs.take i).length ≤ i + 1 by omega)]
        simp [he]
      · have e1 : (cs.take i).length = i := by rw [List.length_take]; omega
        rw [List.drop_append, e1, List.drop_eq_nil_of_le (show (cs.take i).length ≤ j + 1 by omega), show j + 1 - i = (j - i) + 1 by omega, List.drop_succ_cons, List.drop_drop, show i + 1 + (j - i) = j + 1 by omega, List.nil_append, hdj']
      · simp [hne, show q ≠ h.next + 49 by omega, hB]
      · repeat' first | exact hf | apply Heap.Fr.bump | apply Heap.Fr.set
        all_goals (simp <;> omega)
  · simp [k78l0, v0, v6, hlt]
    have hjl : j = l.length := by omega
    exact ⟨_, _, i, j, cs, rfl, by omega, hij, by simp [v0], by simp [v1], by simp [v5], by simp [v6], by simp [hg], hcl, hti, hdj, ht.keep fun j B _ hj => by simpa using hj, hf.bump _, by simp; omega⟩
theorem Res.tailH {o : Option (Ex × St)} {id : Nat} {k : St → Option (Ex × St)} {R : Rc} {rs : List (ResultVar × Bool × Nat)} {P : Ex → St → Prop} {C : D → Heap → Prop} (h : Res o P)
    (hk : ∀ x s, P x s → ∃ d h', endH R rs (andThen (blockK id (some (x, s))) k) = some (.ret d, h') ∧ C d h') : ∃ d h', endH R rs (andThen (blockK id o) k) = some (.ret d, h') ∧ C d h' := by
  obtain ⟨x, s, rfl, p⟩ := h; exact hk x s p
def Fz (h : Heap) (d : D) (l : List Clm) : Prop := ∃ ks, Go.Em.frz h 24 d = some (clsD l, ks)
theorem Fz.of {h : Heap} {k m : Nat} {c : Option Nat} {ty : TypeId} {cs : List D} {l : List Clm} (hg : h.get k = some (.cells ty cs)) (hm : m = l.length) (hc : cs.take (m * 5) = l.flatMap clC) : Fz h (.slr k 0 m 5 c) l := by
  have hea := each_canon h 22 (l.flatMap clC) (cells_canon l)
  have hle : m * 5 ≤ cs.length := by
    have := congrArg List.length hc
    rw [List.length_take, cells_len] at this; omega
  refine ⟨[k], ?_⟩
  rw [frz_slr, hg, frzS_cells]
  simp only [List.drop_zero, hc, hea, Option.map_some, cells_chunk l m hm, Nat.zero_add]
  rw [if_pos ⟨hle, by omega⟩]; rfl
set_option maxHeartbeats 4000000 in
theorem delete_sh (kc km k : Nat) (L : List Int) (l : List Clm) (hl : l.length ≤ 20000000000000) {h : Heap} {d : D} (hf : h.Fr) (ht : TF kc km k L h) (hd : (l = [] ∧ d = .sl false []) ∨ (d = .slr k 0 l.length 5 none ∧ h.get k = some (.cells 70 (l.flatMap clC)) ∧ k < h.next))
    {n : Nat} (hn : l.length + 20 ≤ n) : ∃ d' h', (rc pg n).fn 78 [d, .fn (.func 80) [] [.ptr kc 0]] h = some (.ret d', h') ∧ Fz h' d' (l.filter fun c => !hasI L c.by_) := by
  obtain ⟨m, rfl, e⟩ := fn_body (pg := pg) (f := 78) (args := [d, .fn (.func 80) [] [.ptr kc 0]]) (h := h) (show 0 < n by omega) rfl rfl
  rw [e]
  have s1 : pg.sh 125 = false := rfl
  have hfr : ∀ j, h.raw (h.next + j) = none := fun j => hf _ (by omega)
  have hix := @ixw_run L l hl m (by omega)
  have hcall : ∀ h', TF kc km k L h' → (∀ ty cs, h.get k = some (.cells ty cs) → h'.get k = some (.cells ty cs)) → call pg (rc pg m) 125 [d, .fn (.func 80) [] [.ptr kc 0]] h' = some (.ret (D.int (ixP (fun c => hasI L c.by_) 0 l)), h') := fun h' t hk => by
    have hz := t.frz 20
    have hd' : ∃ ks, Go.Em.frz h' 24 d = some (clsD l, ks) := by
      rcases hd with ⟨rfl, rfl⟩ | ⟨rfl, hg, _⟩
      · exact ⟨[], rfl⟩
      · exact Fz.of (hk _ _ hg) rfl (List.take_of_length_le (by rw [cells_len]; omega))
    obtain ⟨ks', hz'⟩ := hd'
    exact callfz (bs := [clsD l, cloD L]) s1 (by rw [depth_is, each_cons, each_cons, hz', frz_fn, each_nil, each_cons, hz, each_nil, eachK_some, frzF_some, each_nil, eachK_some, eachK_some]; rfl) hix (by simp [Out.d, D.flat])
  have hc1 := hcall ((h.bump 42).bump 42) (ht.keep fun j B _ hj => by simpa using hj) (fun ty cs hg => by simpa using hg)
  rcases ixP_ge (fun c => hasI L c.by_) l 0 with ⟨h1, h2⟩ | ⟨i, h1, h2, h3, h4, h5⟩
  · have hfl : l.filter (fun c => !hasI L c.by_) = l := List.filter_eq_self.2 fun v hv => by simp [h2 v hv]
    rw [h1] at hc1
    rw [hfl]
    simp [k78, Env.v_ini, hc1]
    refine ⟨_, _, ⟨rfl, rfl⟩, ?_⟩
    rcases hd with ⟨rfl, rfl⟩ | ⟨rfl, hg, _⟩
    · exact ⟨[], rfl⟩
    · exact Fz.of (by simpa using hg) rfl (List.take_of_length_le (by rw [cells_len]; omega))
  · rw [Nat.zero_add] at h1
    rw [h1] at hc1
    rcases hd with ⟨rfl, rfl⟩ | ⟨rfl, hg, hk⟩
    · simp at h2
    · have hw1 : IntKind.i64.wrap ((i : Int) + 1) = (i : Int) + 1 := wrap_i64 (by omega) (by omega)
      have hne : ((i : Int) == -1) = false := by simp
      simp [k78, Env.v_ini, hc1, hne, hw1, ev_loop]
      refine Res.tailH (lp_rule 2 (DwI kc km k L l) (fun x s => x = .exit 0 ∧ DwI kc km k L l 0 s) (delw_round kc km k L l hl) (l.length - (i + 1)) m _ (by omega)
        ⟨_, _, i, i + 1, l, rfl, by omega, by omega, by simp [Env.v_ini], by simp [Env.v_ini], by simp, by simp, by simpa using hg, rfl, ?_, rfl, ht.keep fun j B _ hj => by simpa using hj, ?_, by simp; omega⟩) ?_
      · have htake : l.take (i + 1) = l.take i ++ [l[i]] := by rw [List.take_add_one, List.getElem?_eq_getElem h4]; rfl
        rw [htake, List.filter_append, List.filter_eq_self.2 fun v hv => by simp [h3 v hv]]
        simp [h5]
      · repeat' first | exact hf | apply Heap.Fr.bump | apply Heap.Fr.set
      · rintro x s ⟨rfl, x, h', i', j, cs, rfl, hj, hij, v0, v1, v5, v6, hg', hcl, hti, hdj, ht', hf', hk'⟩
        have hjl : j = l.length := by omega
        subst hjl
        rw [List.take_length] at hti
        have q1 : i' ≤ l.length := by omega
        have q2 : ¬ (i' : Int) = (l.length : Int) := by omega
        have q3 : ¬ l.length - i' = 0 := by omega
        have q4 : i' + (l.length - i') = l.length := by omega
        have q5 : i' * 5 + (l.length - i') * 5 = l.length * 5 := by omega
        have q6 := cells_len cs
        simp [v0, v5, hg', sliceR, upTo, mxOk, mxCap, zerosD, q1, q2, q3, q5, q6, hcl]
        refine ⟨_, _, ⟨rfl, rfl⟩, ?_⟩
        have e1 : (cs.take i').length = i' := by rw [List.length_take]; omega
        have e2 : ((cs.flatMap clC).take (i' * 5)).length = i' * 5 := by rw [List.length_take, cells_len]; omega
        rw [← hti]
        refine Fz.of (by simp; exact ⟨rfl, rfl⟩) e1.symm ?_
        rw [List.take_left' e2, take_cells]
end Go.Proofs.YtgbkdjlekfjkfaaGreatDoor
/- Claims without those of some sources: by the program and by the document. -/
namespace Go.Proofs.YtgbkdjlekfjkfaaGreatDoor
open Go Go.Em
set_option maxRecDepth 100000
theorem set_mapD (L : List Int) (j : Nat) (v : Int) (hj : j < L.length) (h : L[j] = v) : (mapD L).set j (D.int v, D.bool true) = mapD L := by
  have : (mapD L)[j]'(by simpa [mapD] using hj) = (D.int v, D.bool true) := by simp [mapD, h]
  rw [← this]; exact List.set_getElem_self _
theorem mapD_snoc (L : List Int) (v : Int) : mapD L ++ [(D.int v, D.bool true)] = mapD (L ++ [v]) := by simp [mapD]
def Un (h0 h : Heap) : Prop := h0.next ≤ h.next ∧ ∀ j, j < h0.next → h.raw j = h0.raw j
def SI (h0 : Heap) (l : List Int) (k : Nat) (s : St) : Prop := ∃ (x : Env 19) (h : Heap) (i b : Nat), s = ⟨x.l, h, []⟩ ∧ i + k = l.length ∧ x.v 9 = intsD l ∧ x.v 10 = D.int l.length ∧ x.v 11 = D.int i ∧ x.v 3 = .mapr b ∧ h.get b = some (.map (mapD (setF (l.take i)))) ∧ b < h.next ∧ h.Fr ∧ h0.next ≤ b ∧ Un h0 h
set_option maxHeartbeats 1000000 in
theorem set_round (h0 : Heap) (l : List Int) (hl : l.length ≤ 20000000000000) : ∀ n, 0 ≤ n → ∀ k s, SI h0 l k s → Res (k69l0.ev ⟨pg, 19, none⟩ (rc pg n) s) (Rnd (SI h0 l) (fun x s => x = .exit 0 ∧ SI h0 l 0 s) k) := by
  rintro n hn k s ⟨x, h, i, b, rfl, hik, v9, v10, v11, v3, hg, hb, hf, hb0, hu1, hu2⟩
  simp only [intsD] at v9
  by_cases hi : i < l.length
  · obtain ⟨c, hc⟩ : ∃ c, l[i] = c := ⟨_, rfl⟩
    have htk : l.take (i + 1) = l.take i ++ [c] := by rw [List.take_add_one, List.getElem?_eq_getElem hi, hc]; rfl
    have hsn := setF_snoc (l.take i) c
    rw [← htk] at hsn
    have w1 : IntKind.i64.wrap ((i : Int) + 1) = (i : Int) + 1 := wrap_i64 (by omega) (by omega)
    rcases find_in c (setF (l.take i)) 0 with ⟨h1, h2⟩ | ⟨j, h1, h2, h3⟩
    · rw [if_neg h1] at hsn
      have hs2 := mapD_snoc (setF (l.take i)) c
      simp [-findD, k69l0, v9, v10, v11, v3, hi, hc, D.cells, w1, hg, h2, hs2]
      refine ⟨k - 1, by omega, _, _, i + 1, b, rfl, by omega, by simp [v9, intsD], by simp [v10], by simp, by simp [v3], by simp [hsn], by simp; omega, ?_, hb0, by simp; omega, fun q hq => ?_⟩
      · repeat' first | exact hf | apply Heap.Fr.bump | apply Heap.Fr.set
        all_goals (simp <;> omega)
      · have := hu2 q hq
        simp [show q ≠ b by omega, this]
    · rw [if_pos (by rw [← h3]; exact List.getElem_mem h2)] at hsn
      have hs2 := set_mapD (setF (l.take i)) j c h2 h3
      rw [Nat.zero_add] at h1
      simp [-findD, k69l0, v9, v10, v11, v3, hi, hc, D.cells, w1, hg, h1, hs2]
      refine ⟨k - 1, by omega, _, _, i + 1, b, rfl, by omega, by simp [v9, intsD], by simp [v10], by simp, by simp [v3], by simp [hsn], by simp; omega, ?_, hb0, by simp; omega, fun q hq => ?_⟩
      · repeat' first | exact hf | apply Heap.Fr.bump | apply Heap.Fr.set
        all_goals (simp <;> omega)
      · have := hu2 q hq
        simp [show q ≠ b by omega, this]
  · simp [k69l0, v10, v11, hi]
    exact ⟨_, _, i, b, rfl, by omega, by simp [v9, intsD], by simp [v10], by simp [v11], by simp [v3], by simp [hg], by simp; omega, hf.bump _, hb0, by simp; omega, fun q hq => by simpa using hu2 q hq⟩
theorem Res.tailG {β : Type} {F : β → D} {o : Option (Ex × St)} {id : Nat} {k : St → Option (Ex × St)} {R : Rc} {rs : List (ResultVar × Bool × Nat)} {P : Ex → St → Prop} {C : β → Heap → Prop} (h : Res o P)
    (hk : ∀ x s, P x s → ∃ d h', endH R rs (andThen (blockK id (some (x, s))) k) = some (.ret (F d), h') ∧ C d h') : ∃ d h', endH R rs (andThen (blockK id o) k) = some (.ret (F d), h') ∧ C d h' := by
  obtain ⟨x, s, rfl, p⟩ := h; exact hk x s p
theorem set_sh (l : List Int) (hl : l.length ≤ 20000000000000) {h : Heap} (hf : h.Fr) {n : Nat} (hn : l.length + 5 ≤ n) : ∃ b h', (rc pg n).fn 69 [intsD l] h = some (.ret (.mapr b), h') ∧ h'.get b = some (.map (mapD (setF l))) ∧ b < h'.next ∧ h'.Fr ∧ h.next ≤ b ∧ Un h h' := by
  obtain ⟨m, rfl, e⟩ := fn_body (pg := pg) (f := 69) (args := [intsD l]) (h := h) (show 0 < n by omega) rfl rfl
  rw [e]
  have hfr : ∀ j, h.raw (h.next + j) = none := fun j => hf _ (by omega)
  simp [k69, Env.v_ini, intsD, ev_loop, hfr, Nat.add_assoc]
  refine Res.tailG (F := D.mapr) (C := fun b h' => h'.get b = some (.map (mapD (setF l))) ∧ b < h'.next ∧ h'.Fr ∧ h.next ≤ b ∧ Un h h') (lp_rule 0 (SI h l) _ (set_round h l hl) l.length m _ (by omega) ⟨_, _, 0, h.next + 27, rfl, by omega, by simp [intsD], by simp, by simp, by simp, by simp [setF, mapD], by simp <;> omega, ?_, by omega, by simp; omega, fun q hq => by simp; omega⟩) ?_
  · repeat' first | exact hf | apply Heap.Fr.bump | apply Heap.Fr.set
    all_goals (simp <;> omega)
  · rintro x s ⟨rfl, x, h', i, b, rfl, hi, v9, v10, v11, v3, hg, hb, hf, hb0, hu1, hu2⟩
    have hil : i = l.length := by omega
    subst hil
    rw [List.take_length] at hg
    refine ⟨b, h'.bump 19, by simp [v3], by simpa using hg, by simp; omega, hf.bump _, hb0, by simp; omega, fun q hq => by simpa using hu2 q hq⟩
theorem clone_n (m : Nat) (h : Heap) : (rc pg (m + 1)).fn 79 [.sl false []] h = none := by kernel_rfl
theorem clone_nil (m : Nat) : pureCall (rc pg (m + 1)) 79 [.val (.slice none 0 0)] = some (.ret (.sl false [])) := by kernel_rfl
theorem clone_e (m : Nat) : pureCall (rc pg (m + 1)) 79 [.sle] = some (.ret (.sl false [])) := by kernel_rfl
theorem appS_zero5 {t : Nat} {h : Heap} {m : Nat} {news cs : List D} {k : Nat} {ty : TypeId} (h0 : 0 < m) (hr : m * 40 ≤ room) (hm : m ≤ maxLen) :
    appS t 70 5 40 h m news k 0 0 5 (some 0) (some (.cells ty cs)) = (h.alloc t (.cells 70 news)).map fun h => (.slr t 0 m 5 none, h) := by
  unfold appS
  simp [hr, hm, show ¬ m = 0 by omega]
theorem cls_nil {l : List Clm} (h : l ≠ []) : nilOf .slice (D.sl false (l.map clD)) = some false := by
  cases l with
  | nil => exact absurd rfl h
  | cons r l => rfl
theorem clone_sh (l : List Clm) (hl : l.length * 40 ≤ 140737488355328) (hne : l ≠ []) {h : Heap} (hf : h.Fr) {n : Nat} (hn : 1 ≤ n) :
    ∃ k h', (rc pg n).fn 79 [clsD l] h = some (.ret (.slr k 0 l.length 5 none), h') ∧ (h'.get k = some (.cells 70 (l.flatMap clC)) ∧ k < h'.next ∧ h.next ≤ k ∧ (∀ j, j < h.next → h'.get j = h.get j) ∧ h'.Fr) := by
  obtain ⟨m, rfl, e⟩ := fn_body (pg := pg) (f := 79) (args := [clsD l]) (h := h) (show 0 < n by omega) rfl rfl
  rw [e]
  have hfr : ∀ j, h.raw (h.next + j) = none := fun j => hf _ (by omega)
  have h1 := cls_nil hne
  have hn0 : nilOf .slice (.val (.slice none 0 0)) = some true := rfl
  have h2 := cls_cells l
  have h3 := cls_one l
  have hlen : l.length ≠ 0 := fun h => hne (List.eq_nil_of_length_eq_zero h)
  have z := fun t hh news k ty cs => appS_zero5 (t := t) (h := hh) (m := l.length) (news := news) (k := k) (ty := ty) (cs := cs) (by omega) (by unfold room; omega) (by unfold maxLen; omega)
  have hall : (l.map clD).all (fun e => e.cells.length == 5) = true := by simp [clD, clC, D.cells]
  simp [-nilOf, k79, Env.v_ini, clsD, h1, hn0, hall, h2, h3, hlen, zerosD, apK_some, z, hfr, Nat.add_assoc]
  refine ⟨_, _, ⟨rfl, rfl⟩, by simp, by simp <;> omega, by omega, fun j hj => ?_, ?_⟩
  · simp
    repeat rw [if_neg (by omega)]
  · repeat' first | exact hf | apply Heap.Fr.bump | apply Heap.Fr.set
    all_goals (simp <;> omega)
def outF (l : List Clm) (bl : List Int) : List Clm := l.filter fun c => !hasI bl c.by_
theorem hasI_set (l : List Int) (v : Int) : hasI (setF l) v = hasI l v := by
  rw [Bool.eq_iff_iff, hasI_mem, hasI_mem, setF_mem]
theorem outF_set (l : List Clm) (bl : List Int) : (l.filter fun c => !hasI (setF bl) c.by_) = outF l bl := by
  unfold outF; congr 1; funext c; rw [hasI_set]
theorem two_canon (l : List Clm) (bl : List Int) : D.canonL [clsD l, intsD bl] = true := by simp [clsD, intsD, ints_canonL, canonL_map clD cl_canon l]
set_option maxHeartbeats 2000000 in
theorem without_run (l : List Clm) (bl : List Int) (hl : l.length * 40 ≤ 140737488355328) (hb : bl.length ≤ 20000000000000) {n : Nat} (hn : l.length + bl.length + 40 ≤ n) : pureCall (rc pg n) 22 [clsD l, intsD bl] = some (.ret (clsD (outF l bl))) := by
  obtain ⟨m, rfl, e⟩ := body (pg := pg) (f := 22) (args := [clsD l, intsD bl]) (show 0 < n by omega) rfl rfl
  rw [e]
  have s17 : pg.sh 69 = true := rfl
  have s18 : pg.sh 78 = true := rfl
  have s19 : pg.sh 79 = true := rfl
  have hfe : ((Heap.empty.bump 12).bump 12).Fr := (Heap.Fr.empty.bump _).bump _
  obtain ⟨b, h1, e1, g1, b1, f1, b0, u1, u2⟩ := set_sh bl hb hfe (n := m) (by omega)
  have c1 := call_sh (pg := pg) s17 e1
  have hn0 : ((Heap.empty.bump 12).bump 12).next = 24 := by simp
  rw [hn0] at b0 u1 u2
  have r17 : h1.raw 17 = none := by rw [u2 17 (by omega)]; simp
  have hb17 : (b = 17) = False := by simp; omega
  obtain ⟨H, hH⟩ : ∃ H, H = ((h1.set 17 (some (.cells 114 [.val (.map none)]))).set 17 (some (.cells 114 [.mapr b]))).bump 12 := ⟨_, rfl⟩
  have hHf : H.Fr := by
    rw [hH]
    repeat' first | exact f1 | apply Heap.Fr.bump | apply Heap.Fr.set
    all_goals first | omega | (simp <;> omega)
  have hHn : H.next = h1.next + 12 := by rw [hH]; simp
  have hHb : H.get b = some (.map (mapD (setF bl))) := by rw [hH]; simp [hb17, g1]
  have hHc : H.get 17 = some (.cells 114 [.mapr b]) := by rw [hH]; simp
  by_cases hne : l = []
  · subst hne
    have c2 : call pg (rc pg m) 79 [.sl false []] H = some (.ret (.sl false []), H) := by
      obtain ⟨m', rfl⟩ := more_of (show 1 ≤ m by omega)
      unfold call
      simp only [s19, if_true, clone_n]
      unfold splitNil
      simp only [clone_nil, clone_e, Option.map_some]
    have ht : TF 17 b (b + 18) (setF bl) H := ⟨by omega, by omega, hHc, hHb⟩
    obtain ⟨d', h', e3, z3⟩ := delete_sh 17 b (b + 18) (setF bl) [] (by simp) hHf ht (.inl ⟨rfl, rfl⟩) (n := m) (by simp; omega)
    have c3 := call_sh (pg := pg) s18 e3
    obtain ⟨ks, z3⟩ := z3
    rw [outF_set] at z3
    simp [k22, Env.v_ini, clsD, c1, r17, D.cells, D.one, ← hH, c2, c3]
    exact ⟨_, z3⟩
  · obtain ⟨k, h2, e2, g2, k2, k0, u3, f2⟩ := clone_sh l hl hne hHf (n := m) (by omega)
    have c2 := call_sh (pg := pg) s19 e2
    have ht : TF 17 b k (setF bl) h2 := ⟨by omega, by omega, by rw [u3 17 (by omega)]; exact hHc, by rw [u3 b (by omega)]; exact hHb⟩
    obtain ⟨d', h', e3, z3⟩ := delete_sh 17 b k (setF bl) l (by omega) f2 ht (.inr ⟨rfl, g2, k2⟩) (n := m) (by omega)
    have c3 := call_sh (pg := pg) s18 e3
    obtain ⟨ks, z3⟩ := z3
    rw [outF_set] at z3
    simp only [clsD] at c2 z3
    simp [k22, Env.v_ini, clsD, c1, r17, D.cells, D.one, ← hH, c2, c3]
    exact ⟨_, z3⟩
/-! The document's own function. -/
def GC (h : Heap) (d : D) (l : List Clm) : Prop := (l = [] ∧ d = .val (.slice none 0 0)) ∨ ∃ k, d = .slr k 0 l.length 5 none ∧ h.get k = some (.cells 70 (l.flatMap clC)) ∧ k < h.next
theorem GC.keep {h h' : Heap} {d : D} {l : List Clm} (g : GC h d l) (hn : h.next ≤ h'.next) (hk : ∀ k, k < h.next → h'.get k = h.get k) : GC h' d l := by
  rcases g with g | ⟨k, a, b, c⟩
  · exact .inl g
  · exact .inr ⟨k, a, by rw [hk k c]; exact b, by omega⟩
theorem GC.frz {h : Heap} {d : D} {l : List Clm} (g : GC h d l) : Fz h d l := by
  rcases g with ⟨rfl, rfl⟩ | ⟨k, rfl, g, _⟩
  · exact ⟨[], rfl⟩
  · exact Fz.of g rfl (List.take_of_length_le (by rw [cells_len]; omega))
end Go.Proofs.YtgbkdjlekfjkfaaGreatDoor
