/- The marks that two sheets have: a list from which others are taken out, in its caller's heap. -/
import Derived.Test.YtomiigdpggeacaaDoorMarkH
import Derived.Test.YtomiigdpggeacaaDoorRowsLaw
namespace Go.Proofs.YtomiigdpggeacaaDoor
open Go Go.Em
set_option maxRecDepth 100000
/-- The place of the first number of a kind, from a place on; none: -1. -/
def ixG (P : Int → Bool) : Nat → List Int → Int
  | _, [] => -1
  | i, r :: l => if P r = true then (i : Int) else ixG P (i + 1) l
theorem ixG_any (P : Int → Bool) : ∀ (l : List Int) (i : Nat), decide (ixG P i l ≥ 0) = l.any P
  | [], _ => rfl
  | r :: l, i => by
    unfold ixG
    by_cases h : P r = true
    · rw [if_pos h]; simp [h]
    · rw [if_neg h, ixG_any P l]; simp [h]
def CXI (v : Int) (l : List Int) (k : Nat) (s : St) : Prop := ∃ (x : Env 19) (h : Heap) (i : Nat), s = ⟨x.l, h, []⟩ ∧ i + k = l.length ∧ x.v 0 = intsD l ∧ x.v 1 = D.int v ∧ x.v 7 = D.int l.length ∧ x.v 8 = D.int i ∧ ixG (v == ·) 0 l = ixG (v == ·) i (l.drop i)
def CXQ (v : Int) (l : List Int) (x : Ex) (s : St) : Prop :=
  (x = .exit 0 ∧ ixG (v == ·) 0 l = -1 ∧ ∃ (x : Env 19) (h : Heap), s = ⟨x.l, h, []⟩) ∨ (x = .ret ∧ ∃ (x : Env 19) (h : Heap), s = ⟨x.l, h, []⟩ ∧ x.v 4 = D.int (ixG (v == ·) 0 l))
set_option maxHeartbeats 1000000 in
theorem ixi_round (v : Int) (l : List Int) (hl : l.length ≤ 1000000) : ∀ n, 0 ≤ n → ∀ k s, CXI v l k s → Res (k131l0.ev ⟨pg, 19, none⟩ (rc pg n) s) (Rnd (CXI v l) (CXQ v l) k) := by
  rintro n hn k s ⟨x, h, i, rfl, hik, v0, v1, v7, v8, ho⟩
  simp only [intsD] at v0
  by_cases hlt : i < l.length
  · obtain ⟨r, hr⟩ : ∃ r, l[i] = r := ⟨l[i], rfl⟩
    have hd : l.drop i = r :: l.drop (i + 1) := by rw [List.drop_eq_getElem_cons hlt, hr]
    rw [hd, ixG] at ho
    have hw1 : IntKind.i64.wrap ((i : Int) + 1) = (i : Int) + 1 := wrap_i64 (by omega) (by omega)
    by_cases he : (v == r) = true
    · rw [if_pos he] at ho
      simp [k131l0, v0, v1, v7, v8, hlt, hr, D.cells, he]
      exact .inr ⟨rfl, _, _, rfl, by simp [ho]⟩
    · rw [if_neg he] at ho
      have he' : (v == r) = false := by simpa using he
      simp [k131l0, v0, v1, v7, v8, hlt, hr, D.cells, he', hw1]
      exact ⟨k - 1, by omega, _, _, i + 1, rfl, by omega, by simp [v0, intsD], by simp [v1], by simp [v7], by simp, ho⟩
  · simp [k131l0, v7, v8, hlt]
    have hi : i = l.length := by omega
    rw [hi, List.drop_length] at ho
    exact .inl ⟨rfl, ho, _, _, rfl⟩
theorem ixi_run (v : Int) (l : List Int) (hl : l.length ≤ 1000000) {n : Nat} (hn : l.length + 5 ≤ n) : pureCall (rc pg n) 131 [intsD l, D.int v] = some (.ret (D.int (ixG (v == ·) 0 l))) := by
  obtain ⟨m, rfl, e⟩ := body (pg := pg) (f := 131) (args := [intsD l, D.int v]) (show 0 < n by omega) rfl rfl
  rw [e]
  simp [k131, Env.v_ini, intsD, ev_loop]
  refine Res.endsAfter (lp_rule 0 (CXI v l) (CXQ v l) (ixi_round v l hl) l.length m _ (by omega) ⟨_, _, 0, rfl, by omega, by simp [Env.v_ini, intsD], by simp [Env.v_ini], by simp, by simp, rfl⟩) ?_
  rintro x s (⟨rfl, ho, x, h, rfl⟩ | ⟨rfl, x, h, rfl, v4⟩)
  · simp [ho]
  · simp [v4]
theorem conI_run (v : Int) (l : List Int) (hl : l.length ≤ 1000000) {n : Nat} (hn : l.length + 6 ≤ n) : pureCall (rc pg n) 123 [intsD l, D.int v] = some (.ret (D.bool (l.any (v == ·)))) := by
  obtain ⟨m, rfl, e⟩ := body (pg := pg) (f := 123) (args := [intsD l, D.int v]) (show 0 < n by omega) rfl rfl
  rw [e]
  have hc : D.canonL [intsD l, D.int v] = true := by simp [intsD, canonL_map D.int (fun _ => rfl) l]
  have hx := fun h => call_of (h := h) (pg := pg) (f := 131) rfl hc (@ixi_run v l hl m (by omega))
  have ha := ixG_any (v == ·) l 0
  simp only [intsD] at hx
  simp [-List.any_eq_true, k123, Env.v_ini, intsD, hx]
  rw [← ha]
/-- Is a number none of a list? -/
def notIn (T : List Int) (v : Int) : Bool := !(T.any (v == ·))
theorem pred_run (v : Int) (T : List Int) (hl : T.length ≤ 1000000) {n : Nat} (hn : T.length + 7 ≤ n) : pureCall (rc pg n) 122 [D.int v, .eref [intsD T]] = some (.ret (D.bool (notIn T v))) := by
  obtain ⟨m, rfl, e⟩ := body (pg := pg) (f := 122) (args := [D.int v, .eref [intsD T]]) (show 0 < n by omega) rfl rfl
  rw [e]
  have hc : D.canonL [intsD T, D.int v] = true := by simp [intsD, canonL_map D.int (fun _ => rfl) T]
  have hx := fun h => call_of (h := h) (pg := pg) (f := 123) rfl hc (@conI_run v T hl m (by omega))
  simp only [intsD] at hx
  simp [-List.any_eq_true, k122, Env.v_ini, intsD, hx, notIn]
def predD (T : List Int) : D := .fn (.func 122) [] [.eref [intsD T]]
def IXI (T l : List Int) (k : Nat) (s : St) : Prop := ∃ (x : Env 19) (h : Heap) (i : Nat), s = ⟨x.l, h, []⟩ ∧ i + k = l.length ∧ x.v 0 = intsD l ∧ x.v 1 = predD T ∧ x.v 7 = D.int l.length ∧ x.v 8 = D.int i ∧ ixG (notIn T) 0 l = ixG (notIn T) i (l.drop i)
def IXQ (T l : List Int) (x : Ex) (s : St) : Prop :=
  (x = .exit 0 ∧ ixG (notIn T) 0 l = -1 ∧ ∃ (x : Env 19) (h : Heap), s = ⟨x.l, h, []⟩) ∨ (x = .ret ∧ ∃ (x : Env 19) (h : Heap), s = ⟨x.l, h, []⟩ ∧ x.v 4 = D.int (ixG (notIn T) 0 l))
set_option maxHeartbeats 1000000 in
theorem ixf_round (T l : List Int) (hT : T.length ≤ 1000000) (hl : l.length ≤ 1000000) : ∀ n, T.length + 7 ≤ n → ∀ k s, IXI T l k s → Res (k130l0.ev ⟨pg, 19, none⟩ (rc pg n) s) (Rnd (IXI T l) (IXQ T l) k) := by
  rintro n hn k s ⟨x, h, i, rfl, hik, v0, v1, v7, v8, ho⟩
  have hp := fun v h => call_of (h := h) (pg := pg) (f := 122) rfl (show D.canonL [D.int v, .eref [intsD T]] = true by simp [intsD, canonL_map D.int (fun _ => rfl) T]) (@pred_run v T hT n hn)
  simp only [intsD, predD] at v0 v1 hp
  by_cases hlt : i < l.length
  · obtain ⟨r, hr⟩ : ∃ r, l[i] = r := ⟨l[i], rfl⟩
    have hd : l.drop i = r :: l.drop (i + 1) := by rw [List.drop_eq_getElem_cons hlt, hr]
    rw [hd, ixG] at ho
    have hw1 : IntKind.i64.wrap ((i : Int) + 1) = (i : Int) + 1 := wrap_i64 (by omega) (by omega)
    by_cases he : notIn T r = true
    · rw [if_pos he] at ho
      simp [k130l0, v0, v1, v7, v8, hlt, hr, D.cells, he, hp]
      exact .inr ⟨rfl, _, _, rfl, by simp [ho]⟩
    · rw [if_neg he] at ho
      have he' : notIn T r = false := by simpa using he
      simp [k130l0, v0, v1, v7, v8, hlt, hr, D.cells, he', hp, hw1]
      exact ⟨k - 1, by omega, _, _, i + 1, rfl, by omega, by simp [v0, intsD], by simp [v1, predD, intsD], by simp [v7], by simp, ho⟩
  · simp [k130l0, v7, v8, hlt]
    have hi : i = l.length := by omega
    rw [hi, List.drop_length] at ho
    exact .inl ⟨rfl, ho, _, _, rfl⟩
theorem ixf_run (T l : List Int) (hT : T.length ≤ 1000000) (hl : l.length ≤ 1000000) {n : Nat} (hn : T.length + l.length + 10 ≤ n) : pureCall (rc pg n) 130 [intsD l, predD T] = some (.ret (D.int (ixG (notIn T) 0 l))) := by
  obtain ⟨m, rfl, e⟩ := body (pg := pg) (f := 130) (args := [intsD l, predD T]) (show 0 < n by omega) rfl rfl
  rw [e]
  simp [k130, Env.v_ini, intsD, ev_loop]
  refine Res.endsAfter (lp_rule (T.length + 7) (IXI T l) (IXQ T l) (ixf_round T l hT hl) l.length m _ (by omega) ⟨_, _, 0, rfl, by omega, by simp [Env.v_ini, intsD], by simp [Env.v_ini], by simp, by simp, rfl⟩) ?_
  rintro x s (⟨rfl, ho, x, h, rfl⟩ | ⟨rfl, x, h, rfl, v4⟩)
  · simp [ho]
  · simp [v4]
end Go.Proofs.YtomiigdpggeacaaDoor
/- Numbers are taken out of a list, in its caller's heap; the marks that two sheets have. -/
namespace Go.Proofs.YtomiigdpggeacaaDoor
open Go Go.Em
set_option maxRecDepth 100000
theorem callfz {pg : Pg} {R : Rc} {f : FuncId} {args bs : List D} {ks : List Nat} {h : Heap} {o : Out} (hs : pg.sh f = false) (ha : each (frz h depth) args = some (bs, ks)) (x : pureCall R f bs = some o) (hf : (ks.isEmpty || o.d.flat) = true) : call pg R f args h = some (o, h) := by
  simp only [call, hs, Bool.false_eq_true, if_false, ha, pureS, orS, x, Option.map_some, hf, if_true]
/-- The other sheet's marks, as the closure holds them. -/
def TF (kc k : Nat) (T : List Int) (h : Heap) : Prop := kc ≠ k ∧ ∃ dT, h.get kc = some (.cells 48 [dT]) ∧ ((T = [] ∧ dT = .val (.slice none 0 0)) ∨ ∃ kt, dT = .slr kt 0 T.length 1 none ∧ h.get kt = some (.cells 3 (T.map D.int)) ∧ kt ≠ k)
theorem TF.keep {kc k : Nat} {T : List Int} {h h' : Heap} (t : TF kc k T h) (hk : ∀ j ty cs, j ≠ k → h.get j = some (.cells ty cs) → h'.get j = some (.cells ty cs)) : TF kc k T h' := by
  obtain ⟨h1, dT, h2, h3⟩ := t
  refine ⟨h1, dT, hk _ _ _ h1 h2, ?_⟩
  rcases h3 with h3 | ⟨kt, h4, h5, h6⟩
  · exact .inl h3
  · exact .inr ⟨kt, h4, hk _ _ _ h6 h5, h6⟩
theorem TF.frz {kc k : Nat} {T : List Int} {h : Heap} (t : TF kc k T h) (n : Nat) : ∃ ks, frz h (n + 3) (.ptr kc 0) = some (.eref [intsD T], ks) := by
  obtain ⟨h1, dT, h2, h3⟩ := t
  rcases h3 with ⟨rfl, rfl⟩ | ⟨kt, rfl, h5, h6⟩
  · exact ⟨[kc], by simp [h2, intsD]⟩
  · have g : ∃ ks, Go.Em.frz h (n + 2) (.slr kt 0 T.length 1 none) = some (intsD T, ks) := by
      have hch : ∀ l : List Int, chunk 1 l.length (l.map D.int) = l.map D.int := by
        intro l
        induction l with
        | nil => rfl
        | cons a l ih => rw [List.length_cons, List.map_cons, chunk, if_pos rfl]; simp only [List.getD_cons_zero, List.drop_succ_cons, List.drop_zero]; rw [ih]
      have htk : (T.map D.int).take T.length = T.map D.int := List.take_of_length_le (by simp)
      have hea := each_canon h n (T.map D.int) (canonL_map _ (fun _ => rfl) T)
      exact ⟨[kt], by rw [frz_slr, h5, frzS_cells]; simp only [List.drop_zero, Nat.mul_one, htk, hea, Option.map_some, hch, List.length_map, intsD]; simp⟩
    obtain ⟨ks, g⟩ := g
    exact ⟨kc :: (ks ++ []), by rw [frz_ptr, h2, frzP_cells, List.drop_zero, each_cons, g, each_nil, eachK_some]; rfl⟩
/-- A list of the heap's, as far as it goes. -/
def Fz (h : Heap) (d : D) (l : List Int) : Prop := ∃ ks, frz h 24 d = some (intsD l, ks)
theorem Fz.of {h : Heap} {k m : Nat} {c : Option Nat} {ty : TypeId} {cs : List D} {l : List Int} (hg : h.get k = some (.cells ty cs)) (hm : m = l.length) (hc : cs.take m = l.map D.int) : Fz h (.slr k 0 m 1 c) l := by
  have hch : ∀ l : List Int, chunk 1 l.length (l.map D.int) = l.map D.int := by
    intro l
    induction l with
    | nil => rfl
    | cons a l ih => rw [List.length_cons, List.map_cons, chunk, if_pos rfl]; simp only [List.getD_cons_zero, List.drop_succ_cons, List.drop_zero]; rw [ih]
  have hea := each_canon h 22 (l.map D.int) (canonL_map _ (fun _ => rfl) l)
  have hle : m ≤ cs.length := by
    have := congrArg List.length hc
    rw [List.length_take, List.length_map] at this; omega
  subst hm
  exact ⟨[k], by rw [frz_slr, hg, frzS_cells]; simp only [List.drop_zero, Nat.mul_one, hc, hea, Option.map_some, hch, intsD, Nat.zero_add]; simp [hle]⟩
/-- While numbers are taken out: the first j have been looked at, i of them stay. -/
def DI (kc k : Nat) (T l : List Int) (m : Nat) (s : St) : Prop := ∃ (x : Env 42) (h : Heap) (i j : Nat) (cs : List Int), s = ⟨x.l, h, []⟩ ∧ j + m = l.length ∧ i < j ∧ x.v 0 = .slr k 0 l.length 1 none ∧ x.v 1 = .fn (.func 122) [] [.ptr kc 0] ∧ x.v 5 = D.int i ∧ x.v 6 = D.int j ∧
  h.get k = some (.cells 3 (cs.map D.int)) ∧ cs.length = l.length ∧ cs.take i = (l.take j).filter (fun v => !notIn T v) ∧ cs.drop j = l.drop j ∧ TF kc k T h ∧ h.Fr ∧ k < h.next
set_option maxHeartbeats 4000000 in
theorem del_round (kc k : Nat) (T l : List Int) (hT : T.length ≤ 1000000) (hl : l.length ≤ 1000000) : ∀ n, T.length + 7 ≤ n → ∀ m s, DI kc k T l m s → Res (k121l0.ev ⟨pg, 42, none⟩ (rc pg n) s) (Rnd (DI kc k T l) (fun x s => x = .exit 0 ∧ DI kc k T l 0 s) m) := by
  rintro n hn m s ⟨x, h, i, j, cs, rfl, hjm, hij, v0, v1, v5, v6, hg, hcl, hti, hdj, ht, hf, hk⟩
  have hfr : ∀ j, h.raw (h.next + j) = none := fun j => hf _ (by omega)
  have hp := fun v => @pred_run v T hT n hn
  have s1 : pg.sh 122 = false := rfl
  have hca : ∀ v h', TF kc k T h' → call pg (rc pg n) 122 [D.int v, .ptr kc 0] h' = some (.ret (D.bool (notIn T v)), h') := fun v h' t => by
    obtain ⟨ks, hz⟩ := t.frz 21
    exact callfz s1 (by rw [depth_is, each_cons, each_cons, hz, each_nil, eachK_some, frz_int, eachK_some]) (hp v) (by simp [Out.d, D.flat])
  by_cases hlt : j < l.length
  · obtain ⟨r, hr⟩ : ∃ r, l[j] = r := ⟨l[j], rfl⟩
    have hjc : j < cs.length := by omega
    have hcj : cs[j] = r := by
      have h1 := List.drop_eq_getElem_cons hlt
      have h2 := List.drop_eq_getElem_cons hjc
      rw [hdj, h1] at h2
      rw [← hr]; exact (List.cons.inj h2).1.symm
    have hdj' : cs.drop (j + 1) = l.drop (j + 1) := by
      rw [← List.drop_drop, ← List.drop_drop, hdj]
    have htake : l.take (j + 1) = l.take j ++ [r] := by rw [List.take_add_one, List.getElem?_eq_getElem hlt, hr]; rfl
    have hw1 : IntKind.i64.wrap ((j : Int) + 1) = (j : Int) + 1 := wrap_i64 (by omega) (by omega)
    have hw2 : IntKind.i64.wrap ((i : Int) + 1) = (i : Int) + 1 := wrap_i64 (by omega) (by omega)
    have hil : i < l.length := by omega
    have ht2 := fun (h' : Heap) (hh : h' = (h.bump 42).bump 42 ∨ h' = ((h.bump 42).bump 42).bump 42) => hca r h' (ht.keep fun j ty cs _ hj => by rcases hh with rfl | rfl <;> simpa using hj)
    have hc1 := ht2 _ (.inl rfl)
    have hc2 := ht2 _ (.inr rfl)
    have hgd : ∀ d, (cs.map D.int).getD j d = D.int r := fun d => by simp [List.getD_eq_getElem?_getD, hjc, hcj]
    have hle : j + 1 ≤ cs.length := by omega
    have hle2 : i + 1 ≤ cs.length := by omega
    cases he : notIn T r with
    | true =>
      simp [k121l0, v0, v1, v5, v6, hlt, hg, hcj, hjc, hle, hc1, hc2, he, hw1, hw2, D.cells, D.one, hfr, Nat.add_assoc, hgd]
      refine ⟨m - 1, by omega, _, _, i, j + 1, cs, rfl, by omega, by omega, by simp [v0], by simp [v1], by simp [v5], by simp, by simp [hg], hcl, ?_, hdj', ht.keep fun j ty cs _ hj => by simpa using hj, ?_, by simp; omega⟩
      · rw [hti, htake, List.filter_append]; simp [he]
      · repeat' first | exact hf | apply Heap.Fr.bump | apply Heap.Fr.set
        all_goals (simp <;> omega)
    | false =>
      simp [k121l0, v0, v1, v5, v6, hlt, hg, hcj, hjc, hle, hc1, hc2, he, hw1, hw2, D.cells, D.one, hfr, Nat.add_assoc, hgd, hil, hle2]
      refine ⟨m - 1, by omega, _, _, i + 1, j + 1, cs.take i ++ r :: cs.drop (i + 1), rfl, by omega, by omega, by simp [v0], by simp [v1], by simp, by simp, by simp [List.map_take, List.map_drop], by simp; omega, ?_, ?_, ht.keep fun j ty cs hne hj => by simp [hne, hj], ?_, by simp; omega⟩
      · have e1 : (cs.take i).length = i := by rw [List.length_take]; omega
        rw [htake, List.filter_append, ← hti, List.take_append, e1, show i + 1 - i = 1 by omega, List.take_of_length_le (show (cs.take i).length ≤ i + 1 by omega)]
        simp [he]
      · have e1 : (cs.take i).length = i := by rw [List.length_take]; omega
        rw [List.drop_append, e1, List.drop_eq_nil_of_le (show (cs.take i).length ≤ j + 1 by omega), show j + 1 - i = (j - i) + 1 by omega, List.drop_succ_cons, List.drop_drop, show i + 1 + (j - i) = j + 1 by omega, List.nil_append, hdj']
      · repeat' first | exact hf | apply Heap.Fr.bump | apply Heap.Fr.set
        all_goals (simp <;> omega)
  · simp [k121l0, v0, v6, hlt]
    have hjl : j = l.length := by omega
    exact ⟨_, _, i, j, cs, rfl, by omega, hij, by simp [v0], by simp [v1], by simp [v5], by simp [v6], by simp [hg], hcl, hti, hdj, ht.keep fun j ty cs _ hj => by simpa using hj, hf.bump _, by simp; omega⟩
end Go.Proofs.YtomiigdpggeacaaDoor
/- The marks that two sheets have, by the program. -/
namespace Go.Proofs.YtomiigdpggeacaaDoor
open Go Go.Em
set_option maxRecDepth 100000
theorem ixG_ge (P : Int → Bool) : ∀ (l : List Int) (i : Nat), (ixG P i l = -1 ∧ ∀ v ∈ l, P v = false) ∨ ∃ j : Nat, ixG P i l = ((i + j : Nat) : Int) ∧ j < l.length ∧ (∀ v ∈ l.take j, P v = false) ∧ ∃ (h : j < l.length), P l[j] = true
  | [], _ => .inl ⟨rfl, fun _ h => by cases h⟩
  | r :: l, i => by
    unfold ixG
    by_cases h : P r = true
    · rw [if_pos h]
      exact .inr ⟨0, by simp, by simp, fun v hv => by simp at hv, by simp, h⟩
    · rw [if_neg h]
      have h' : P r = false := by simpa using h
      rcases ixG_ge P l (i + 1) with ⟨h1, h2⟩ | ⟨j, h1, h2, h3, h4, h5⟩
      · exact .inl ⟨h1, fun v hv => by rcases List.mem_cons.1 hv with rfl | hv; exact h'; exact h2 v hv⟩
      · refine .inr ⟨j + 1, by rw [h1]; congr 1; omega, by simp; omega, fun v hv => ?_, by simp; omega, by simpa using h5⟩
        rw [List.take_succ_cons] at hv
        rcases List.mem_cons.1 hv with rfl | hv
        · exact h'
        · exact h3 v hv
theorem Res.tailH {o : Option (Ex × St)} {id : Nat} {k : St → Option (Ex × St)} {R : Rc} {rs : List (ResultVar × Bool × Nat)} {P : Ex → St → Prop} {C : D → Heap → Prop} (h : Res o P)
    (hk : ∀ x s, P x s → ∃ d h', endH R rs (andThen (blockK id (some (x, s))) k) = some (.ret d, h') ∧ C d h') : ∃ d h', endH R rs (andThen (blockK id o) k) = some (.ret d, h') ∧ C d h' := by
  obtain ⟨x, s, rfl, p⟩ := h; exact hk x s p
set_option maxHeartbeats 4000000 in
theorem delete_sh (kc k : Nat) (T l : List Int) (hT : T.length ≤ 1000000) (hl : l.length ≤ 1000000) {h : Heap} {d : D} (hf : h.Fr) (ht : TF kc k T h) (hd : (l = [] ∧ d = .val (.slice none 0 0)) ∨ (d = .slr k 0 l.length 1 none ∧ h.get k = some (.cells 3 (l.map D.int)) ∧ k < h.next))
    {n : Nat} (hn : T.length + l.length + 20 ≤ n) : ∃ d' h', (rc pg n).fn 121 [d, .fn (.func 122) [] [.ptr kc 0]] h = some (.ret d', h') ∧ Fz h' d' (l.filter fun v => !notIn T v) := by
  obtain ⟨m, rfl, e⟩ := fn_body (pg := pg) (f := 121) (args := [d, .fn (.func 122) [] [.ptr kc 0]]) (h := h) (show 0 < n by omega) rfl rfl
  rw [e]
  have s1 : pg.sh 130 = false := rfl
  have hfr : ∀ j, h.raw (h.next + j) = none := fun j => hf _ (by omega)
  have hix := @ixf_run T l hT hl m (by omega)
  have hcall : ∀ h', TF kc k T h' → (∀ ty cs, h.get k = some (.cells ty cs) → h'.get k = some (.cells ty cs)) → call pg (rc pg m) 130 [d, .fn (.func 122) [] [.ptr kc 0]] h' = some (.ret (D.int (ixG (notIn T) 0 l)), h') := fun h' t hk => by
    obtain ⟨ks, hz⟩ := t.frz 20
    have hd' : ∃ ks, frz h' 24 d = some (intsD l, ks) := by
      rcases hd with ⟨rfl, rfl⟩ | ⟨rfl, hg, _⟩
      · exact ⟨[], frz_nil⟩
      · exact Fz.of (hk _ _ hg) rfl (List.take_of_length_le (by simp))
    obtain ⟨ks', hz'⟩ := hd'
    exact callfz s1 (by rw [depth_is, each_cons, each_cons, hz', frz_fn, each_nil, each_cons, hz, each_nil, eachK_some, frzF_some, each_nil, eachK_some, eachK_some]; rfl) hix (by simp [Out.d, D.flat])
  have hc1 := hcall ((h.bump 42).bump 42) (ht.keep fun j ty cs _ hj => by simpa using hj) (fun ty cs hg => by simpa using hg)
  rcases ixG_ge (notIn T) l 0 with ⟨h1, h2⟩ | ⟨i, h1, h2, h3, h4, h5⟩
  · have hfl : l.filter (fun v => !notIn T v) = l := List.filter_eq_self.2 fun v hv => by simp [h2 v hv]
    rw [h1] at hc1
    rw [hfl]
    simp [k121, Env.v_ini, hc1]
    refine ⟨_, _, ⟨rfl, rfl⟩, ?_⟩
    rcases hd with ⟨rfl, rfl⟩ | ⟨rfl, hg, _⟩
    · exact ⟨[], frz_nil⟩
    · exact Fz.of (by simpa using hg) rfl (List.take_of_length_le (by simp))
  · rw [Nat.zero_add] at h1
    rw [h1] at hc1
    rcases hd with ⟨rfl, rfl⟩ | ⟨rfl, hg, hk⟩
    · simp at h2
    · have hw1 : IntKind.i64.wrap ((i : Int) + 1) = (i : Int) + 1 := wrap_i64 (by omega) (by omega)
      have hne : ((i : Int) == -1) = false := by simp
      simp [k121, Env.v_ini, hc1, hne, hw1, ev_loop]
      refine Res.tailH (lp_rule (T.length + 7) (DI kc k T l) (fun x s => x = .exit 0 ∧ DI kc k T l 0 s) (del_round kc k T l hT hl) (l.length - (i + 1)) m _ (by omega)
        ⟨_, _, i, i + 1, l, rfl, by omega, by omega, by simp [Env.v_ini], by simp [Env.v_ini], by simp, by simp, by simpa using hg, rfl, ?_, rfl, ht.keep fun j ty cs _ hj => by simpa using hj, ?_, by simp; omega⟩) ?_
      · have htake : l.take (i + 1) = l.take i ++ [l[i]] := by rw [List.take_add_one, List.getElem?_eq_getElem h4]; rfl
        rw [htake, List.filter_append, List.filter_eq_self.2 fun v hv => by simp [h3 v hv]]
        simp [h5]
      · repeat' first | exact hf | apply Heap.Fr.bump | apply Heap.Fr.set
      · rintro x s ⟨rfl, x, h', i', j, cs, rfl, hj, hij, v0, v1, v5, v6, hg', hcl, hti, hdj, ht', hf', hk'⟩
        have hjl : j = l.length := by omega
        subst hjl
        rw [List.take_length] at hti
        have q1 : i' ≤ l.length := by omega
        have q2 : ¬ (i' : Int) = (l.length : Int) := by omega
        have q3 : ¬ l.length - i' = 0 := by omega
        have q4 : i' + (l.length - i') = l.length := by omega
        simp [v0, v5, hg', sliceR, upTo, mxOk, mxCap, zerosD, q1, q2, q3, q4, hcl]
        refine ⟨_, _, ⟨rfl, rfl⟩, ?_⟩
        have e1 : (cs.take i').length = i' := by rw [List.length_take]; omega
        rw [← hti]
        refine Fz.of (by simp; exact ⟨rfl, rfl⟩) e1.symm ?_
        rw [← List.map_take, List.take_left' (by rw [List.length_map, e1])]
end Go.Proofs.YtomiigdpggeacaaDoor
/- The marks that two sheets have: what the program answers. -/
namespace Go.Proofs.YtomiigdpggeacaaDoor
open Go Go.Em
set_option maxRecDepth 100000
theorem call_sh {pg : Pg} {R : Rc} {f : FuncId} {args : List D} {h : Heap} {p : Out × Heap} (hs : pg.sh f = true) (e : R.fn f args h = some p) : call pg R f args h = some p := by simp [call, hs, e]
theorem get_of_raw {h h' : Heap} {k : Nat} (e : h'.raw k = h.raw k) : h'.get k = h.get k := by unfold Heap.get; rw [e]
def k105a : Cd := .region [⟨none, (some 2), .inl (.box 25 4 (.s 0))⟩, ⟨none, (some 3), .inl (.box 25 4 (.s 1))⟩, ⟨none, (some 4), .inl (.mv (.c (.slice none 0 0)))⟩]
def k105b : Cd := .region [⟨none, (some 6), .inl (.ld true 4 (.s 3))⟩, ⟨none, (some 7), .inr (.fn 30 [(.s 6)])⟩, ⟨none, (some 5), .inl (.alloc 48 [(.slice none 0 0)])⟩, ⟨none, none, .inl (.st 1 (.s 5) (.s 7))⟩]
def k105c : Cd := .region [⟨none, (some 8), .inl (.ld true 4 (.s 2))⟩, ⟨none, (some 9), .inr (.fn 30 [(.s 8)])⟩, ⟨none, (some 10), .inl (.mkf (.func 122) [] [(.s 5)])⟩, ⟨none, (some 11), .inr (.fn 121 [(.s 9), (.s 10)])⟩, ⟨none, (some 4), .inl (.mv (.s 11))⟩]
theorem k105_eq : k105 = .seq k105a (.seq k105b (.seq k105c .ret)) := rfl
/-- The closure's list, below a place of the heap. -/
def TB (kc N : Nat) (T : List Int) (h : Heap) : Prop := kc < N ∧ ∃ dT, h.get kc = some (.cells 48 [dT]) ∧ ((T = [] ∧ dT = .val (.slice none 0 0)) ∨ ∃ kt, dT = .slr kt 0 T.length 1 none ∧ h.get kt = some (.cells 3 (T.map D.int)) ∧ kt < N)
theorem common_b (i r c : Int) (l : List Rw) {m : Nat} (hm : l.length + 30 ≤ m) (x : Env 12) (h : Heap) (hf : h.Fr) (v3 : x.v 3 = .ptr 3 0) (h3 : 3 < h.next) (g3 : h.get 3 = some (.cells 25 (sheetC i r c l))) :
    Res (k105b.ev ⟨pg, 12, none⟩ (rc pg m) { e := x.l, h := h, df := [] }) fun y s => y = .normal ∧ ∃ (x' : Env 12) (h' : Heap), s = ⟨x'.l, h', []⟩ ∧ x'.v 2 = x.v 2 ∧ x'.v 5 = .ptr (h.next + 5) 0 ∧ h'.Fr ∧ TB (h.next + 5) h'.next (shMarks i r c l) h' ∧ (∀ k, k < h.next → h'.raw k = h.raw k) ∧ h.next ≤ h'.next := by
  obtain ⟨d1, h1, e1, hG, hU, hF, hN⟩ := marks_sh i r c l (h := h.bump 12) (hf.bump 12) (n := m) (by omega)
  rw [Heap.next_bump'] at hG hU hN
  have q := call_sh (pg := pg) rfl e1
  have hr : h1.raw (h.next + 5) = none := by rw [hU _ (by omega), Heap.raw_bump']; exact hf _ (by omega)
  simp only [sheetC, rowsD] at q g3
  have fin : ∀ h2 : Heap, h2 = (h1.set (h.next + 5) (some (.cells 48 [.val (.slice none 0 0)]))).set (h.next + 5) (some (.cells 48 [d1])) → h2.Fr ∧ TB (h.next + 5) h2.next (shMarks i r c l) h2 ∧ (∀ k, k < h.next → h2.raw k = h.raw k) ∧ h.next ≤ h2.next := by
    rintro h2 rfl
    refine ⟨(hF.set _ (by omega)).set _ (by simp; omega), ⟨by simp; omega, d1, by simp, ?_⟩, fun k hk => ?_, by simp; omega⟩
    · rcases hG with ⟨h4, h5⟩ | ⟨k, h4, h5, h6, h7⟩
      · exact .inl ⟨h4, h5⟩
      · have : k ≠ h.next + 5 := by omega
        exact .inr ⟨k, h4, by simp [this, h5], by simp; omega⟩
    · rw [Heap.raw_set_ne _ _ (by omega), Heap.raw_set_ne _ _ (by omega), hU _ (by omega), Heap.raw_bump']
  rcases hG with ⟨_, rfl⟩ | ⟨k, rfl, _⟩
  · simp [k105b, v3, g3, D.cells, D.one, q, hr]
    exact ⟨_, _, ⟨rfl, rfl⟩, by simp, by simp, fin _ rfl⟩
  · simp [k105b, v3, g3, D.cells, D.one, q, hr]
    exact ⟨_, _, ⟨rfl, rfl⟩, by simp, by simp, fin _ rfl⟩
theorem common_c (i r c : Int) (l : List Rw) (kc : Nat) (T : List Int) (hT : T.length ≤ 1000000) (hl : (shMarks i r c l).length ≤ 1000000) {m : Nat} (hm : l.length + T.length + (shMarks i r c l).length + 50 ≤ m) (x : Env 12) (h : Heap) (hf : h.Fr) (v2 : x.v 2 = .ptr 2 0) (v5 : x.v 5 = .ptr kc 0) (h3 : 3 < h.next) (g2 : h.get 2 = some (.cells 25 (sheetC i r c l))) (ht : TB kc h.next T h) :
    Res (k105c.ev ⟨pg, 12, none⟩ (rc pg m) { e := x.l, h := h, df := [] }) fun y s => y = .normal ∧ ∃ (x' : Env 12) (h' : Heap) (d : D), s = ⟨x'.l, h', []⟩ ∧ x'.v 4 = d ∧ Fz h' d ((shMarks i r c l).filter fun v => !notIn T v) := by
  obtain ⟨d1, h1, e1, hG, hU, hF, hN⟩ := marks_sh i r c l (h := h.bump 12) (hf.bump 12) (n := m) (by omega)
  rw [Heap.next_bump'] at hG hU hN
  have q := call_sh (pg := pg) rfl e1
  obtain ⟨t1, dT, t2, t3⟩ := ht
  have hk : ∃ k, TF kc k T h1 ∧ ((shMarks i r c l = [] ∧ d1 = .val (.slice none 0 0)) ∨ (d1 = .slr k 0 (shMarks i r c l).length 1 none ∧ h1.get k = some (.cells 3 ((shMarks i r c l).map D.int)) ∧ k < h1.next)) := by
    have tf : ∀ k, h.next ≤ k → TF kc k T h1 := fun k hk => by
      refine ⟨by omega, dT, by rw [get_of_raw ((hU kc (by omega)).trans (Heap.raw_bump' ..)), t2], ?_⟩
      rcases t3 with t3 | ⟨kt, t4, t5, t6⟩
      · exact .inl t3
      · exact .inr ⟨kt, t4, by rw [get_of_raw ((hU kt (by omega)).trans (Heap.raw_bump' ..)), t5], by omega⟩
    rcases hG with h4 | ⟨k, h4, h5, h6, h7⟩
    · exact ⟨h.next, tf _ (Nat.le_refl _), .inl h4⟩
    · exact ⟨k, tf k (by omega), .inr ⟨h4, h5, h6⟩⟩
  obtain ⟨k, hk1, hk2⟩ := hk
  obtain ⟨d2, h2, e2, hz⟩ := delete_sh kc k T (shMarks i r c l) hT hl hF hk1 hk2 (n := m) (by omega)
  have q2 := call_sh (pg := pg) rfl e2
  simp only [sheetC, rowsD] at q g2
  simp [k105c, v2, v5, g2, D.cells, q, q2]
  exact ⟨_, _, ⟨rfl, rfl⟩, by simpa using hz⟩
def comF (A B : List Int) : List Int := A.filter fun v => !notIn B v
theorem shM_len (i r c : Int) (l : List Rw) : (shMarks i r c l).length ≤ 400 := by
  unfold shMarks
  split
  · rename_i h0
    have := marks_len c l
    have := len_of_chk h0
    omega
  · simp
theorem common_run (i r c : Int) (l : List Rw) (i' r' c' : Int) (l' : List Rw) {n : Nat} (hn : l.length + l'.length + 1000 ≤ n) : pureCall (rc pg n) 105 [D.agg (sheetC i r c l), D.agg (sheetC i' r' c' l')] = some (.ret (intsD (comF (shMarks i r c l) (shMarks i' r' c' l')))) := by
  obtain ⟨m, rfl, e⟩ := body (pg := pg) (f := 105) (args := [D.agg (sheetC i r c l), D.agg (sheetC i' r' c' l')]) (show 0 < n by omega) rfl rfl
  rw [e, k105_eq, ev_seq]
  have hl1 := shM_len i r c l
  have hl2 := shM_len i' r' c' l'
  have ha : Res (k105a.ev ⟨pg, 12, none⟩ (rc pg m) { e := (Env.ini 12 [D.agg (sheetC i r c l), D.agg (sheetC i' r' c' l')]).l, h := .empty, df := [] }) fun y s => y = .normal ∧ ∃ (x : Env 12) (h : Heap), s = ⟨x.l, h, []⟩ ∧ x.v 2 = .ptr 2 0 ∧ x.v 3 = .ptr 3 0 ∧ h.Fr ∧ 3 < h.next ∧ h.get 2 = some (.cells 25 (sheetC i r c l)) ∧ h.get 3 = some (.cells 25 (sheetC i' r' c' l')) := by
    simp [k105a, Env.v_ini, sheetC, rowsD, D.cells, D.one]
    refine ⟨_, _, ⟨rfl, rfl⟩, by simp, by simp, ?_, by simp, by simp, by simp⟩
    repeat' first | exact Heap.Fr.empty | apply Heap.Fr.bump | apply Heap.Fr.set
    all_goals simp
  obtain ⟨y, s, e1, rfl, x, h, rfl, v2, v3, hf, h3, g2, g3⟩ := ha
  rw [e1, andThen_normal, ev_seq]
  obtain ⟨y, s, e2, rfl, x', h', rfl, v2', v5', hf', tb, hraw, hn'⟩ := common_b i' r' c' l' (m := m) (by omega) x h hf v3 h3 g3
  rw [e2, andThen_normal, ev_seq]
  obtain ⟨y, s, e3, rfl, x'', h'', d, rfl, v4, ks, hz⟩ := common_c i r c l (h.next + 5) _ (by omega) (by omega) (m := m) (by omega) x' h' hf' (v2'.trans v2) v5' (by omega) (by rw [get_of_raw (hraw 2 (by omega))]; exact g2) tb
  rw [e3, andThen_normal]
  simp [v4, hz, comF]
end Go.Proofs.YtomiigdpggeacaaDoor
