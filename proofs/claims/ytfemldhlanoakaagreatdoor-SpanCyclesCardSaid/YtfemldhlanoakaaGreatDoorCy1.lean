/- A list of steps is turned around, by the program. -/
import Derived.Test.YtfemldhlanoakaaGreatDoorRg1
import Derived.Test.YtfemldhlanoakaaGreatDoorMo1
import Derived.Test.YtfemldhlanoakaaGreatDoorWo1
import Derived.Test.YtfemldhlanoakaaGreatDoorRoom
import Derived.Test.YtfemldhlanoakaaGreatDoorCho1
import Derived.Test.YtfemldhlanoakaaGreatDoorMul
import Derived.Test.YtfemldhlanoakaaGreatDoorCho1
import Derived.Test.YtfemldhlanoakaaGreatDoorMo5
import Derived.Test.YtfemldhlanoakaaGreatDoorBnd
namespace Go.Proofs.YtfemldhlanoakaaGreatDoor
open Go Go.Em Go.Em.Net
set_option maxRecDepth 100000
def sC (n : Nat) (g : Nat → Stp) : List D := (List.range n).flatMap fun q => stC (g q)
theorem sC_len (n : Nat) (g : Nat → Stp) : (sC n g).length = n * 2 := by
  unfold sC
  rw [length_flatMap (sz := 2) (fun q => stC (g q)) (fun _ => rfl)]
  simp
theorem sC_set (g : Nat → Stp) (s : Stp) {n i : Nat} (hi : i < n) : (sC n g).take (i * 2) ++ (stC s ++ (sC n g).drop (i * 2 + 2)) = sC n (fun q => if q = i then s else g q) := by
  have key : ∀ (L : List Nat) (j : Nat), L.Nodup → L[j]? = some i → (L.flatMap fun q => stC (g q)).take (j * 2) ++ (stC s ++ (L.flatMap fun q => stC (g q)).drop (j * 2 + 2)) = L.flatMap fun q => stC (if q = i then s else g q) := by
    intro L
    induction L with
    | nil => intro j _ h; simp at h
    | cons a L ih =>
      intro j hn hj
      cases j with
      | zero =>
        simp only [List.getElem?_cons_zero, Option.some.injEq] at hj
        subst hj
        have hno := (List.nodup_cons.1 hn).1
        rw [List.flatMap_cons, List.flatMap_cons, if_pos rfl]
        have e : (L.flatMap fun q => stC (if q = a then s else g q)) = L.flatMap fun q => stC (g q) := by
          rw [List.flatMap_def, List.flatMap_def]
          congr 1
          refine List.map_congr_left fun q hq => ?_
          rw [if_neg (fun e => hno (by rw [← e]; exact hq))]
        rw [e]
        simp [stC]
      | succ j =>
        have hj' : L[j]? = some i := by simpa using hj
        have ha : a ≠ i := fun e => (List.nodup_cons.1 hn).1 (by rw [e]; exact List.mem_of_getElem? hj')
        have := ih j (List.nodup_cons.1 hn).2 hj'
        rw [List.flatMap_cons, List.flatMap_cons, if_neg ha, ← this]
        rw [show (j + 1) * 2 = (stC (g a)).length + j * 2 by simp [stC]; omega, List.take_length_add_append, show (stC (g a)).length + j * 2 + 2 = (stC (g a)).length + (j * 2 + 2) by omega, List.drop_length_add_append, List.append_assoc]
  exact key (List.range n) i List.nodup_range (by simp [hi])
theorem sC_get (g : Nat → Stp) {n i : Nat} (hi : i < n) : ((sC n g).drop (i * 2)).take 2 = stC (g i) := by
  have key : ∀ (L : List Nat) (j : Nat), L[j]? = some i → ((L.flatMap fun q => stC (g q)).drop (j * 2)).take 2 = stC (g i) := by
    intro L
    induction L with
    | nil => intro j h; simp at h
    | cons a L ih =>
      intro j hj
      cases j with
      | zero =>
        simp only [List.getElem?_cons_zero, Option.some.injEq] at hj
        subst hj
        simp [stC]
      | succ j =>
        rw [List.flatMap_cons, show (j + 1) * 2 = (stC (g a)).length + j * 2 by simp [stC]; omega, List.drop_length_add_append]
        exact ih j (by simpa using hj)
  exact key (List.range n) i (by simp [hi])
theorem sC_congr {n : Nat} {f g : Nat → Stp} (h : ∀ q, q < n → f q = g q) : sC n f = sC n g := by
  unfold sC
  rw [List.flatMap_def, List.flatMap_def]
  congr 1
  exact List.map_congr_left fun q hq => by rw [h q (List.mem_range.1 hq)]
theorem sC_list (L : List Stp) : L.flatMap stC = sC L.length (fun q => L.getD q ⟨0, false⟩) := by
  unfold sC
  conv => lhs; rw [show L = (List.range L.length).map (fun q => L.getD q ⟨0, false⟩) from by
    apply List.ext_getElem
    · simp
    · intro i h1 h2
      simp [List.getD_eq_getElem?_getD, List.getElem?_eq_getElem h1]]
  rw [List.flatMap_map]
theorem sC_rev (L : List Stp) (g : Nat → Stp) (h : ∀ q, q < L.length → g q = L.getD (L.length - 1 - q) ⟨0, false⟩) : sC L.length g = L.reverse.flatMap stC := by
  rw [sC_list L.reverse, List.length_reverse]
  unfold sC
  rw [List.flatMap_def, List.flatMap_def]
  congr 1
  refine List.map_congr_left fun q hq => ?_
  have hq' := List.mem_range.1 hq
  show stC (g q) = stC (L.reverse.getD q ⟨0, false⟩)
  rw [h q hq', List.getD_eq_getElem?_getD, List.getD_eq_getElem?_getD, List.getElem?_reverse hq']
/-- The list after so many exchanges. -/
def rvG (L : List Stp) (i : Nat) (q : Nat) : Stp := if q < i ∨ L.length - 1 - q < i then L.getD (L.length - 1 - q) ⟨0, false⟩ else L.getD q ⟨0, false⟩
def RvI (L : List Stp) (kb : Nat) (h0 : Heap) (k : Nat) (s : St) : Prop := ∃ (x : Env 28) (h : Heap) (i : Nat), s = ⟨x.l, h, []⟩ ∧ i + k = L.length ∧ 2 * i ≤ L.length ∧ x.v 0 = .slr kb 0 L.length 2 none ∧ x.v 2 = D.int i ∧ x.v 3 = D.int ((L.length : Int) - 1 - i) ∧ h.get kb = some (.cells 77 (sC L.length (rvG L i))) ∧ (∀ q, q ≠ kb → q < h0.next → h.raw q = h0.raw q) ∧ h0.next ≤ h.next ∧ kb < h0.next ∧ h.Fr
def RvQ (L : List Stp) (kb : Nat) (h0 : Heap) (x : Ex) (s : St) : Prop := x = .exit 0 ∧ ∃ (x : Env 28) (h : Heap), s = ⟨x.l, h, []⟩ ∧ h.get kb = some (.cells 77 (L.reverse.flatMap stC)) ∧ (∀ q, q ≠ kb → q < h0.next → h.raw q = h0.raw q) ∧ h0.next ≤ h.next ∧ h.Fr
set_option maxHeartbeats 8000000 in
theorem rv_round (L : List Stp) (hL : L.length ≤ 1000) (kb : Nat) (h0 : Heap) : ∀ f, 0 ≤ f → ∀ k s, RvI L kb h0 k s → Res (k82l0.ev ⟨pg, 28, none⟩ (rc pg f) s) (Rnd (RvI L kb h0) (RvQ L kb h0) k) := by
  rintro f hf k s ⟨x, h, i, rfl, hik, h2i, v0, v2, v3, hg, hu, hnx, hkb, hfr'⟩
  obtain ⟨n, hn⟩ : ∃ n, n = L.length := ⟨_, rfl⟩
  have hcl := sC_len L.length (rvG L i)
  by_cases hlt : (i : Int) < (L.length : Int) - 1 - i
  · have hi : i < L.length := by omega
    obtain ⟨j, hj⟩ : ∃ j : Nat, (L.length : Int) - 1 - i = j := ⟨L.length - 1 - i, by omega⟩
    have hjl : j < L.length := by omega
    have hje : j = L.length - 1 - i := by omega
    rw [hj] at v3 hlt
    have w1 : IntKind.i64.wrap ((i : Int) + 1) = (i : Int) + 1 := wrap_i64 (by omega) (by omega)
    have w2 : IntKind.i64.wrap ((j : Int) - 1) = (j : Int) - 1 := wrap_i64 (by omega) (by omega)
    obtain ⟨G, hG⟩ : ∃ G, G = rvG L i := ⟨_, rfl⟩
    rw [← hG] at hg hcl
    have g1 := sC_get G hi
    have g2 := sC_get G hjl
    have s1 := sC_set G (G j) hi
    have s2 := sC_set (fun q => if q = i then G j else G q) (G i) hjl
    have c2 := sC_len L.length (fun q => if q = i then G j else G q)
    have l1 : i * 2 + 2 ≤ L.length * 2 := by omega
    have l2 : j * 2 + 2 ≤ L.length * 2 := by omega
    have hij : ((i : Int) < (j : Int)) := hlt
    have nkb : ∀ t, (kb = h.next + t) = False := fun t => by simp; omega
    have hnew : sC L.length (fun q => if q = j then G i else if q = i then G j else G q) = sC L.length (rvG L (i + 1)) := by
      refine sC_congr fun q hq => ?_
      rw [hG]
      unfold rvG
      by_cases e1 : q = j
      · subst e1
        rw [if_pos rfl, if_neg (by omega), if_pos (by omega), show L.length - 1 - q = i by omega]
      · by_cases e2 : q = i
        · subst e2
          rw [if_neg e1, if_pos rfl, if_neg (by omega), if_pos (by omega), hje]
        · rw [if_neg e1, if_neg e2]
          by_cases e3 : q < i ∨ L.length - 1 - q < i
          · rw [if_pos e3, if_pos (by omega)]
          · rw [if_neg e3, if_neg (by omega)]
    simp only [stC, List.cons_append, List.nil_append] at g1 g2 s1 s2
    simp [k82l0, v0, v2, v3, hij, hi, hjl, hg, hcl, c2, g1, g2, s1, s2, l1, l2, w1, w2, D.cells, D.one, stC]
    refine ⟨k - 1, by omega, _, _, i + 1, rfl, by omega, by omega, by simp [v0], by simp, by simp; omega, by simp [hnew], fun q h1 h2 => by simp [h1, hu q h1 h2], by simp; omega, hkb, ?_⟩
    repeat' first | exact hfr' | apply Heap.Fr.bump | apply Heap.Fr.set
    all_goals first | omega | (simp <;> omega)
  · simp [k82l0, v2, v3, hlt]
    refine ⟨rfl, _, _, rfl, ?_, fun q h1 h2 => by simp [hu q h1 h2], by simp; omega, hfr'.bump _⟩
    rw [← sC_rev L (rvG L i) fun q hq => ?_]
    · simpa using hg
    · unfold rvG
      by_cases e : q < i ∨ L.length - 1 - q < i
      · rw [if_pos e]
      · rw [if_neg e, show L.length - 1 - q = q by omega]
theorem rev_sh (L : List Stp) (hL : L.length ≤ 1000) {kb : Nat} {h : Heap} (hg : h.get kb = some (.cells 77 (L.flatMap stC))) (hkb : kb < h.next) (hf : h.Fr) {f : Nat} (hfl : 1100 ≤ f) :
    ∃ h', (rc pg f).fn 82 [.slr kb 0 L.length 2 none] h = some (.ret (.tup []), h') ∧ h'.get kb = some (.cells 77 (L.reverse.flatMap stC)) ∧ (∀ q, q ≠ kb → q < h.next → h'.raw q = h.raw q) ∧ h.next ≤ h'.next ∧ h'.Fr := by
  obtain ⟨m, rfl, e⟩ := fn_body (pg := pg) (f := 82) (args := [.slr kb 0 L.length 2 none]) (h := h) (show 0 < f by omega) rfl rfl
  rw [e]
  have w1 : IntKind.i64.wrap ((L.length : Int) - 1) = (L.length : Int) - 1 := wrap_i64 (by omega) (by omega)
  simp [k82, Env.v_ini, w1, D.cells, D.one, ev_loop]
  have e0 : sC L.length (rvG L 0) = L.flatMap stC := by
    rw [sC_list L]
    exact sC_congr fun q _ => by unfold rvG; simp
  refine Res.fin (C := fun h' => h'.get kb = some (.cells 77 (L.reverse.flatMap stC)) ∧ (∀ q, ¬ q = kb → q < h.next → h'.raw q = h.raw q) ∧ h.next ≤ h'.next ∧ h'.Fr) (lp_rule 0 (RvI L kb h) _ (rv_round L hL kb h) L.length m _ (by omega) ⟨_, _, 0, rfl, by omega, by omega, by simp [Env.v_ini], by simp, by simp, by rw [e0]; simpa using hg, fun q _ _ => by simp, by simp <;> omega, hkb, ?_⟩) ?_
  · repeat' first | exact hf | apply Heap.Fr.bump | apply Heap.Fr.set
    all_goals first | omega | (simp <;> omega)
  · rintro x s ⟨rfl, x, h', rfl, g, u, nx, f'⟩
    exact ⟨h', by simp, g, u, nx, f'⟩
end Go.Proofs.YtfemldhlanoakaaGreatDoor
/- The chain that contradicts: followed back, by the program. -/
namespace Go.Proofs.YtfemldhlanoakaaGreatDoor
open Go Go.Em Go.Em.Net
set_option maxRecDepth 100000
def moOf (l : List Mo) (bl : List Int) (v : Nat) : Option Mo := if bl.getD v (-1) < 0 then none else l[(bl.getD v (-1)).toNat]?
theorem pOf_mo (l : List Mo) (bl : List Int) (v : Nat) : pOf l bl v = (moOf l bl v).map mvO := by
  unfold pOf moOf mvs
  split
  · rfl
  · rw [List.getElem?_map]; rfl
theorem moOf_ex {l : List Mo} {bl : List Int} {v : Nat} {m : Mv} (h : pOf l bl v = some m) : ∃ (mo : Mo) (z : Nat), moOf l bl v = some mo ∧ mvO mo = m ∧ v < bl.length ∧ bl[v]? = some (z : Int) ∧ l[z]? = some mo := by
  rw [pOf_mo] at h
  obtain ⟨mo, h1, h2⟩ := Option.map_eq_some_iff.1 h
  refine ⟨mo, (bl.getD v (-1)).toNat, h1, h2, ?_⟩
  unfold moOf at h1
  split at h1
  · cases h1
  · rename_i hn
    by_cases hv : v < bl.length
    · have e : bl.getD v (-1) = bl[v] := by simp [List.getD_eq_getElem?_getD, hv]
      refine ⟨hv, ?_, h1⟩
      rw [List.getElem?_eq_getElem hv]
      congr 1
      omega
    · have e : bl.getD v (-1) = -1 := by simp [List.getD_eq_getElem?_getD, List.getElem?_eq_none (Nat.le_of_not_lt hv)]
      omega
def cyB (l : List Mo) (bl : List Int) (v : Nat) : Nat → List Mo
  | 0 => []
  | j + 1 => cyB l bl v j ++ (moOf l bl (bk (pOf l bl) j v)).toList
structure QG (M : List Int) (l : List Mo) (bl : List Int) (gb : Nat) (x : Env 57) (h : Heap) : Prop where
  v1 : x.v 1 = .ptr gb 0
  v3 : x.v 3 = intsD bl
  g : h.get gb = some (.cells 87 [intsD M, mosD l])
  n : gb < h.next
  fr : h.Fr
def Qc0 (M : List Int) (l : List Mo) (bl : List Int) (gb v0 n : Nat) (k : Nat) (s : St) : Prop := ∃ (x : Env 57) (h : Heap) (i : Nat), s = ⟨x.l, h, []⟩ ∧ i + k = n ∧ QG M l bl gb x h ∧ x.v 4 = D.int (bk (pOf l bl) i v0) ∧ x.v 17 = D.int n ∧ x.v 18 = D.int i
set_option maxHeartbeats 8000000 in
theorem q0_round (M : List Int) (l : List Mo) (bl : List Int) (gb v0 n : Nat) (hn : n ≤ 64) (hs : ∀ k, ∃ m, pOf l bl (bk (pOf l bl) k v0) = some m) : ∀ f, 0 ≤ f → ∀ k s, Qc0 M l bl gb v0 n k s → Res (k46l0.ev ⟨pg, 57, none⟩ (rc pg f) s) (Rnd (Qc0 M l bl gb v0 n) (fun x s => x = .exit 0 ∧ Qc0 M l bl gb v0 n 0 s) k) := by
  rintro f hf k s ⟨x, h, i, rfl, hik, q, v4, v17, v18⟩
  have v1 := q.v1
  have v3 := q.v3
  have g := q.g
  simp only [intsD, mosD] at v3 g
  by_cases hi : i < n
  · have w1 : IntKind.i64.wrap ((i : Int) + 1) = (i : Int) + 1 := wrap_i64 (by omega) (by omega)
    obtain ⟨m, hm⟩ := hs i
    obtain ⟨mo, z, h1, h2, h3, h4, h5⟩ := moOf_ex hm
    have hb : bk (pOf l bl) (i + 1) v0 = mo.fr := by
      show par (pOf l bl) (bk (pOf l bl) i v0) = mo.fr
      rw [par_some hm, ← h2]; rfl
    obtain ⟨u, hu⟩ : ∃ u, u = bk (pOf l bl) i v0 := ⟨_, rfl⟩
    rw [← hu] at v4 h3 h4
    have hz : z < l.length := (List.getElem?_eq_some_iff.1 h5).1
    have e1 : bl[u] = (z : Int) := Option.some.inj (by rw [← List.getElem?_eq_getElem h3, h4])
    have e2 : l[z] = mo := Option.some.inj (by rw [← List.getElem?_eq_getElem hz, h5])
    simp [k46l0, v1, v3, v4, v17, v18, hi, g, h3, e1, hz, e2, moD, moC, D.cells, D.one, w1]
    refine ⟨k - 1, by omega, _, _, i + 1, rfl, by omega, ⟨by simp [v1], by simp [v3, intsD], by simp [q.g], by have := q.n; simp; omega, ?_⟩, by simp [hb], by simp [v17], by simp⟩
    repeat' first | exact q.fr | apply Heap.Fr.bump
  · simp [k46l0, v17, v18, hi]
    exact ⟨_, _, i, rfl, by omega, ⟨by simp [v1], by simp [v3, intsD], by simp [q.g], by have := q.n; simp; omega, q.fr.bump _⟩, by simp [v4], by simp [v17], by simp [v18]⟩
def sO (m : Mo) : List D := stC (stO m)
theorem sO_len (l : List Mo) : (l.flatMap sO).length = l.length * 2 := length_flatMap sO (fun _ => rfl) l
def Qc1 (M : List Int) (l : List Mo) (bl : List Int) (gb v d : Nat) (k : Nat) (s : St) : Prop := ∃ (x : Env 57) (h : Heap) (j : Nat), s = ⟨x.l, h, []⟩ ∧ j + k = d ∧ QG M l bl gb x h ∧ x.v 4 = D.int (bk (pOf l bl) j v) ∧ x.v 6 = D.int v ∧ (cyB l bl v j).length = j ∧ GZ 77 2 j ((cyB l bl v j).flatMap sO) h (x.v 5)
set_option maxHeartbeats 8000000 in
theorem q1_round (M : List Int) (l : List Mo) (bl : List Int) (gb v d : Nat) (hd : 0 < d) (hd64 : d ≤ 64) (hb0 : bk (pOf l bl) d v = v) (hmin : ∀ q, 0 < q → q < d → bk (pOf l bl) q v ≠ v) (hs : ∀ k, ∃ m, pOf l bl (bk (pOf l bl) k v) = some m) : ∀ f, 0 ≤ f → ∀ k s, Qc1 M l bl gb v d k s → Res (k46l1.ev ⟨pg, 57, none⟩ (rc pg f) s) (Rnd (Qc1 M l bl gb v d) (fun x s => x = .exit 2 ∧ Qc1 M l bl gb v d 0 s) k) := by
  rintro f hf k s ⟨x, h, j, rfl, hjk, q, v4, v6, hlen, gz⟩
  have v1 := q.v1
  have v3 := q.v3
  have g := q.g
  have hfr' := q.fr
  have nb := q.n
  simp only [intsD, mosD] at v3 g
  by_cases hj : j < d
  · have hfr : ∀ t, h.raw (h.next + t) = none := fun t => hfr' _ (by omega)
    obtain ⟨m, hm⟩ := hs j
    obtain ⟨mo, z, h1, h2, h3, h4, h5⟩ := moOf_ex hm
    have hb : bk (pOf l bl) (j + 1) v = mo.fr := by
      show par (pOf l bl) (bk (pOf l bl) j v) = mo.fr
      rw [par_some hm, ← h2]; rfl
    have hc : cyB l bl v (j + 1) = cyB l bl v j ++ [mo] := by
      show cyB l bl v j ++ (moOf l bl (bk (pOf l bl) j v)).toList = _
      rw [h1]; rfl
    have hne : 0 < j → ¬ ((bk (pOf l bl) j v : Nat) : Int) = (v : Int) := fun h0 e => hmin j h0 hj (by omega)
    obtain ⟨u, hu⟩ : ∃ u, u = bk (pOf l bl) j v := ⟨_, rfl⟩
    rw [← hu] at v4 h3 h4 hne
    have hz : z < l.length := (List.getElem?_eq_some_iff.1 h5).1
    have e1 : bl[u] = (z : Int) := Option.some.inj (by rw [← List.getElem?_eq_getElem h3, h4])
    have e2 : l[z] = mo := Option.some.inj (by rw [← List.getElem?_eq_getElem hz, h5])
    have nbr : ∀ t, (gb = h.next + t) = False := fun t => by simp; omega
    rcases gz with ⟨e0, g5⟩ | ⟨e0, kk, g5, gg, nk⟩
    · subst e0
      simp [k46l1, v1, v3, v4, v6, g5, g, h3, e1, hz, e2, moD, moC, D.cells, D.one, hfr, Nat.add_assoc, zerosD, apK_some, List.range_succ, room, maxLen, nbr]
      refine ⟨k - 1, by omega, _, _, 1, rfl, by omega, ⟨by simp [v1], by simp [v3, intsD], by simp [q.g, nbr], by simp; omega, ?_⟩, by rw [hb]; simp, by simp [v6], by rw [hc]; simp [cyB], .inr ⟨by omega, h.next + 165, by simp, by rw [hc]; simp [cyB, sO, stC, stO], by simp⟩⟩
      · repeat' first | exact hfr' | apply Heap.Fr.bump | apply Heap.Fr.set
        all_goals first | omega | (simp <;> omega)
    · have ne1 := hne e0
      have ne2 : ((u : Int) != (v : Int)) = true := by simpa using ne1
      have ne3 : ((j : Int) == 0) = false := by simp; omega
      have nkr : ∀ t, (kk = h.next + t) = False := fun t => by simp; omega
      have nkr' : ∀ t, (h.next + t = kk) = False := fun t => by simp; omega
      have ngk : (gb = kk) = False := by
        simp; intro e; rw [e, gg] at g; cases g
      have hl2 : ((cyB l bl v j).flatMap sO).length = j * 2 := by rw [sO_len, hlen]
      have happ := fun t hh news => appS_none (t := t) (et := 77) (sz := 2) (bytes := 16) (h := hh) (m := 1) (news := news) (k := kk) (n := j) (cs := (cyB l bl v j).flatMap sO) hl2 (by omega) (by unfold room; omega) (by unfold maxLen; omega)
      simp [-bne_iff_ne, -beq_iff_eq, -beq_eq_false_iff_ne, k46l1, v1, v3, v4, v6, g5, g, ne2, ne3, h3, e1, hz, e2, moD, moC, D.cells, D.one, hfr, Nat.add_assoc, zerosD, apK_some, List.range_succ, nbr, nkr, nkr', ngk, gg, happ]
      refine ⟨k - 1, by omega, _, _, j + 1, rfl, by omega, ⟨by simp [v1], by simp [v3, intsD], by simp [q.g, nbr, ngk], by simp; omega, ?_⟩, by rw [hb]; simp, by simp [v6], by rw [hc]; simp [hlen], .inr ⟨by omega, h.next + 165, by simp, by rw [hc]; simp [sO, stC, stO], by simp⟩⟩
      · repeat' first | exact hfr' | apply Heap.Fr.bump | apply Heap.Fr.set
        all_goals first | omega | (simp <;> omega)
  · have hjd : j = d := by omega
    subst hjd
    rcases gz with ⟨e0, g5⟩ | ⟨e0, kk, g5, gg, nk⟩
    · omega
    · have ne3 : ((j : Int) == 0) = false := by simp; omega
      rw [hb0] at v4
      simp [-beq_iff_eq, -beq_eq_false_iff_ne, k46l1, v4, v6, g5, ne3]
      refine ⟨_, _, j, rfl, by omega, ⟨by simp [v1], by simp [v3, intsD], by simp [q.g], by simp; omega, ?_⟩, by simp [v4, hb0], by simp [v6], hlen, ?_⟩
      · repeat' first | exact hfr' | apply Heap.Fr.bump
      · exact .inr ⟨e0, kk, by simp [g5], by simp [gg], by simp; omega⟩
end Go.Proofs.YtfemldhlanoakaaGreatDoor
/- The chain that contradicts, by the program: the function; what it is. -/
namespace Go.Proofs.YtfemldhlanoakaaGreatDoor
open Go Go.Em Go.Em.Net
set_option maxRecDepth 100000
theorem least_per {P : Nat → Option Mv} {v : Nat} : ∀ d, 0 < d → bk P d v = v → ∃ e, 0 < e ∧ e ≤ d ∧ bk P e v = v ∧ ∀ q, 0 < q → q < e → bk P q v ≠ v := by
  intro d
  induction d using Nat.strongRecOn with
  | ind d ih =>
    intro hd hb
    by_cases hc : ∃ q, 0 < q ∧ q < d ∧ bk P q v = v
    · obtain ⟨q, q1, q2, q3⟩ := hc
      obtain ⟨e, e1, e2, e3, e4⟩ := ih q q2 q1 q3
      exact ⟨e, e1, by omega, e3, e4⟩
    · exact ⟨d, hd, Nat.le_refl d, hb, fun q q1 q2 q3 => hc ⟨q, q1, q2, q3⟩⟩
theorem cyB_len {l : List Mo} {bl : List Int} {v : Nat} (hs : ∀ k, ∃ m, pOf l bl (bk (pOf l bl) k v) = some m) : ∀ j, (cyB l bl v j).length = j
  | 0 => rfl
  | j + 1 => by
    obtain ⟨m, hm⟩ := hs j
    obtain ⟨mo, z, h1, _⟩ := moOf_ex hm
    show (cyB l bl v j ++ (moOf l bl (bk (pOf l bl) j v)).toList).length = j + 1
    rw [List.length_append, cyB_len hs j, h1]; rfl
theorem cyB_mem {l : List Mo} {bl : List Int} {v : Nat} : ∀ j m, m ∈ cyB l bl v j → m ∈ l
  | 0, m, h => by cases h
  | j + 1, m, h => by
    rcases List.mem_append.1 h with h | h
    · exact cyB_mem j m h
    · unfold moOf at h
      split at h
      · cases h
      · have := Option.mem_toList.1 h
        exact List.mem_of_getElem? this
/-- Followed back and turned around, the chain leads from its last mark to the first one. -/
theorem cyB_pa {l : List Mo} {bl : List Int} {v : Nat} (hs : ∀ k, ∃ m, pOf l bl (bk (pOf l bl) k v) = some m) (ho : ∀ x m, pOf l bl x = some m → m.2.1 = x) : ∀ j, Pa (bk (pOf l bl) j v) (cyB l bl v j).reverse v ∧ smF (cyB l bl v j).reverse = bsum (pOf l bl) v j
  | 0 => ⟨rfl, rfl⟩
  | j + 1 => by
    obtain ⟨m, hm⟩ := hs j
    obtain ⟨mo, z, h1, h2, _⟩ := moOf_ex hm
    obtain ⟨i1, i2⟩ := cyB_pa hs ho j
    have hc : cyB l bl v (j + 1) = cyB l bl v j ++ [mo] := by
      show cyB l bl v j ++ (moOf l bl (bk (pOf l bl) j v)).toList = _
      rw [h1]; rfl
    have hb : bk (pOf l bl) (j + 1) v = mo.fr := by
      show par (pOf l bl) (bk (pOf l bl) j v) = mo.fr
      rw [par_some hm, ← h2]; rfl
    have ht : mo.to_ = bk (pOf l bl) j v := by
      have := ho _ m hm
      rw [← h2] at this
      exact this
    rw [hc, List.reverse_append, hb]
    refine ⟨⟨rfl, by rw [ht]; exact i1⟩, ?_⟩
    show mo.mo + smF (cyB l bl v j).reverse = bsum (pOf l bl) v j + (match pOf l bl (bk (pOf l bl) j v) with | some m => m.2.2 | none => 0)
    rw [i2, hm, ← h2]
    simp only [mvO]
    omega
/-- What the function of chains that contradict tells. -/
def CyOut (M : List Int) (l : List Mo) (o : Out) : Prop := (conF M l = false ∧ o = .ret (.sl false [])) ∨ (conF M l = true ∧ ∃ (c : List Mo) (v : Nat), o = .ret (stsD (c.map stO)) ∧ 0 < c.length ∧ c.length ≤ 64 ∧ (∀ m ∈ c, m ∈ l) ∧ Pa v c v ∧ smF c < 0)
set_option maxHeartbeats 8000000 in
theorem cyg_run (M : List Int) (l : List Mo) (hn : M.length ≤ 64) (hl : l.length ≤ 800) (hin : ∀ m ∈ l, m.fr < M.length ∧ m.to_ < M.length ∧ m.fr ≠ m.to_ ∧ -100000 ≤ m.mo ∧ m.mo ≤ 100000) {f : Nat} (hf : 1200 ≤ f) : ∃ o, pureCall (rc pg f) 46 [grD M l] = some o ∧ CyOut M l o := by
  obtain ⟨m, rfl, e⟩ := body (pg := pg) (f := 46) (args := [grD M l]) (show 0 < f by omega) rfl rfl
  rw [e]
  obtain ⟨o, ho, bl, late, rfl, hlate, hlv⟩ := rg_run M l hn hl hin (f := m) (by omega)
  have c81 := fun h => call_of (h := h) (pg := pg) (f := 81) rfl (gr_canon M l) ho
  have hcon : late = -1 ↔ conF M l = false := by
    rw [hlate]; unfold conF
    cases h1 : (decide (0 < M.length) && allChg (mvs l) M.length z0) with
    | true =>
      rw [Bool.and_eq_true, decide_eq_true_eq] at h1
      simp [h1]
    | false =>
      have : ¬ (0 < M.length ∧ allChg (mvs l) M.length z0 = true) := fun h2 => by rw [decide_eq_true h2.1, h2.2] at h1; cases h1
      simp only [this, not_false_eq_true]
  simp only [grD, intsD, mosD] at c81
  by_cases hl1 : late = -1
  · have q1 : (late == -1) = true := by simp [hl1]
    refine ⟨.ret (.sl false []), ?_, .inl ⟨hcon.1 hl1, rfl⟩⟩
    simp [-beq_iff_eq, k46, Env.v_ini, grD, intsD, mosD, D.cells, D.one, c81, q1]
  · have q1 : (late == -1) = false := by simpa using hl1
    obtain ⟨hbl, w, L, y, e1, hw, hL, hR⟩ := hlv hl1
    subst e1
    have hin1 : ∀ mv ∈ mvs l, mv.1 < M.length := fun mv hm => by
      obtain ⟨mo, h1, rfl⟩ := List.mem_map.1 hm
      exact (hin mo h1).1
    obtain ⟨hs, d0, d1, d2, d3⟩ := hR.found hin1 hw hL
    obtain ⟨d, p1, p2, p3, p4⟩ := least_per d0 d1 d3
    obtain ⟨v, hv⟩ : ∃ v, v = bk (pOf l bl) M.length w := ⟨_, rfl⟩
    rw [← hv] at p3 p4
    have hs' : ∀ k, ∃ mm, pOf l bl (bk (pOf l bl) k v) = some mm := fun k => by rw [hv, bk_add]; exact hs _
    have ho' : ∀ x mm, pOf l bl x = some mm → mm.2.1 = x := fun x mm hx => (hR.own x mm hx).2.1
    have hb := hR.below hs' p1 p3
    obtain ⟨a1, a2⟩ := cyB_pa hs' ho' d
    rw [p3] at a1
    have hcl := cyB_len hs' d
    refine ⟨.ret (stsD ((cyB l bl v d).reverse.map stO)), ?_, .inr ⟨by cases hc : conF M l with | true => rfl | false => exact absurd (hcon.2 hc) hl1, (cyB l bl v d).reverse, v, rfl, by rw [List.length_reverse, hcl]; exact p1, by rw [List.length_reverse, hcl]; omega, fun mm hm => cyB_mem d mm (List.mem_reverse.1 hm), a1, by rw [a2]; exact hb⟩⟩
    have s81 : pg.sh 81 = false := rfl
    simp [-beq_iff_eq, -beq_eq_false_iff_ne, k46, Env.v_ini, grD, intsD, mosD, D.cells, D.one, c81, q1, ev_loop]
    refine Res.endsAfter (lp_rule 0 (Qc0 M l bl 1 w M.length) _ (q0_round M l bl 1 w M.length hn hs) M.length m _ (by omega) ⟨_, _, 0, rfl, by omega, ⟨by simp, by simp [intsD], by simp [intsD, mosD], by simp, ?_⟩, by simp; rfl, by simp, by simp⟩) ?_
    · repeat' first | exact Heap.Fr.empty | apply Heap.Fr.bump | apply Heap.Fr.set
      all_goals first | omega | (simp <;> omega)
    rintro xo so ⟨rfl, x, h, i, rfl, hi, q, v4, v17, v18⟩
    have hin' : i = M.length := by omega
    subst hin'
    rw [← hv] at v4
    simp [v4, ev_loop]
    refine Res.endsAfter (lp_rule 0 (Qc1 M l bl 1 v d) _ (q1_round M l bl 1 v d p1 (by omega) p3 p4 hs') d m _ (by omega) ⟨_, _, 0, rfl, by omega, ⟨by simp [q.v1], by simp [q.v3], by simp [q.g], by have := q.n; simp <;> omega, ?_⟩, by simp [v4]; rfl, by simp, rfl, .inl ⟨rfl, by simp⟩⟩) ?_
    · repeat' first | exact q.fr | apply Heap.Fr.bump | apply Heap.Fr.set
      all_goals first | omega | (simp <;> omega)
    rintro xo so ⟨rfl, x2, h2, j, rfl, hj, q2, w4, w6, wl, gz⟩
    have hjd : j = d := by omega
    subst hjd
    rcases gz with ⟨e0, _⟩ | ⟨e0, kk, g5, gg, nk⟩
    · omega
    obtain ⟨C, hC⟩ : ∃ C, C = (cyB l bl v j).map stO := ⟨_, rfl⟩
    have hCl : C.length = j := by rw [hC, List.length_map, hcl]
    have hsO : (cyB l bl v j).flatMap sO = C.flatMap stC := by rw [hC, List.flatMap_map]; rfl
    rw [hsO] at gg
    obtain ⟨h3, e82, g3, _, _, f3⟩ := rev_sh C (by omega) (h := h2.bump 57) (kb := kk) (by simpa using gg) (by simp; omega) (q2.fr.bump 57) (f := m) (by omega)
    have s82 : pg.sh 82 = true := rfl
    have c82 := call_sh (pg := pg) s82 e82
    rw [hCl] at c82
    rw [← hC]
    have hcl2 : (C.reverse.flatMap stC).length = j * 2 := by
      have := length_flatMap (sz := 2) stC (fun _ => rfl) C.reverse
      rw [List.length_reverse, hCl] at this
      exact this
    have ht : List.take (j * 2) (C.reverse.flatMap stC) = C.reverse.flatMap stC := List.take_of_length_le (by omega)
    have hch := chunk_flatMap (sz := 2) stC (by omega) (fun s => rfl) C.reverse j (by rw [List.length_reverse, hCl])
    have hx := fun H n => each_canon H n _ (canonL_flatMap stC (fun s => by simp [stC]) C.reverse)
    simp [g5, c82, g3, hcl2, ht, hx, hch, stsD]
    exact fun _ _ => rfl
end Go.Proofs.YtfemldhlanoakaaGreatDoor
/- Either a chain that contradicts or a chronology: the law, by the evaluator. -/
namespace Go.Proofs.YtfemldhlanoakaaGreatDoor
open Go Go.Em Go.Em.Net
set_option maxRecDepth 100000
theorem cyc_walk {l : List Clm} (h0 : chkF l = 0) {c : List Mo} (hc : ∀ m ∈ c, m ∈ movsF (marksF l) 0 l) {v : Nat} (hp : Pa v c v) (h1 : 0 < c.length) (h2 : c.length ≤ 64) (hs : smF c < 0) : cycF l (c.map stO) = 0 := by
  obtain ⟨k, hk⟩ : ∃ k, c.length = k + 1 := ⟨c.length - 1, by omega⟩
  have ht : c.take (k + 1) = c := List.take_of_length_le (by omega)
  have hw := walk_pa (l := l) (c := c) hc k v (by omega) (by rw [ht]; exact hp)
  rw [ht] at hw
  have e : walkF l (c.map stO) = (((marksF l).getD v 0, (marksF l).getD v 0, smF c), 0) := by
    unfold walkF
    rw [if_neg (by omega), List.length_map, if_neg (by omega), if_neg (by omega), hk, hw]
  unfold cycF
  rw [e]
  simp
  omega
/-- What Cycle tells. -/
def CyF (l : List Clm) (C : List Stp) : Prop := if chkF l ≠ 0 then C = [] else if badF l = true then 0 < C.length ∧ C.length ≤ 64 ∧ cycF l C = 0 else C = []
set_option maxHeartbeats 8000000 in
theorem cycle_run (l : List Clm) {f : Nat} (hf : 1500 ≤ f) : ∃ C, CyF l C ∧ pureCall (rc pg f) 11 [clsD l] = some (.ret (.tup [stsD C, D.int (chkF l)])) := by
  obtain ⟨m, rfl, e⟩ := body (pg := pg) (f := 11) (args := [clsD l]) (show 0 < f by omega) rfl rfl
  rw [e]
  have c43 := fun h => call_of (h := h) (pg := pg) (f := 43) rfl (cls_canon l) (@chk_run l m (by omega))
  simp only [clsD] at c43
  by_cases h0 : chkF l = 0
  · rw [h0] at c43
    have g := good_movs h0
    obtain ⟨hl1, hl2, hl3⟩ := chk_ok h0
    have c44 := fun h => call_of (h := h) (pg := pg) (f := 44) rfl (two_ok l) (@graph_run l h0 m (by omega))
    obtain ⟨o, e46, ho⟩ := cyg_run (marksF l) (movsF (marksF l) 0 l) hl3 (by rw [movs_len]; omega) (fun mm hm => ⟨(g.hin mm hm).1, (g.hin mm hm).2.1, (g.hin mm hm).2.2, (g.bd mm hm).1, (g.bd mm hm).2⟩) (f := m) (by omega)
    have c46 := fun h => call_of (h := h) (pg := pg) (f := 46) rfl (gr_canon (marksF l) (movsF (marksF l) 0 l)) e46
    simp only [clsD, eachD, grD, intsD, mosD] at c44 c46
    rcases ho with ⟨hc, rfl⟩ | ⟨hc, c, v, rfl, q1, q2, q3, q4, q5⟩
    · have hb : badF l = false := hc
      refine ⟨[], by unfold CyF; simp [h0, hb], ?_⟩
      simp [k11, Env.v_ini, clsD, D.cells, D.one, c43, c44, c46, stsD, h0]
    · have hb : badF l = true := hc
      refine ⟨c.map stO, by unfold CyF; simp only [h0, ne_eq, not_true_eq_false, if_false, hb, if_true]; exact ⟨by rw [List.length_map]; exact q1, by rw [List.length_map]; exact q2, cyc_walk h0 q3 q4 q1 q2 q5⟩, ?_⟩
      obtain ⟨C, hC⟩ : ∃ C, C = c.map stO := ⟨_, rfl⟩
      rw [← hC] at c46 ⊢
      have hcs := sts_canon C
      have hfs : ∀ (h : Heap) (n : Nat), frz h (n + 1) (stsD C) = some (stsD C, []) := fun h n => by
        have : (stsD C).canon = true := by simp [stsD, hcs]
        unfold frz; rw [if_pos this]
      simp only [stsD] at hfs c46
      simp [k11, Env.v_ini, clsD, D.cells, D.one, c43, c44, c46, stsD, hfs, h0]
  · have h0' : (chkF l != 0) = true := by simpa using h0
    refine ⟨[], by unfold CyF; simp [h0], ?_⟩
    simp [-bne_iff_ne, k11, Env.v_ini, clsD, D.cells, D.one, c43, h0', stsD]
set_option maxHeartbeats 8000000 in
theorem cycles_law (l : List Clm) {f : Nat} (hf : 8000 ≤ f) : pureCall (rc pg f) 4 [clsD l] = some (.ret (D.bool true)) := by
  obtain ⟨m, rfl, e⟩ := body (pg := pg) (f := 4) (args := [clsD l]) (show 0 < f by omega) rfl rfl
  rw [e]
  have hsn := fun h => @sane_call m (by omega) h
  obtain ⟨C, hC, e11⟩ := cycle_run l (f := m) (by omega)
  have c11 := fun h => call_of (h := h) (pg := pg) (f := 11) rfl (cls_canon l) e11
  have c12 := fun h => call_of (h := h) (pg := pg) (f := 12) rfl (cls_canon l) (@rchk_run l m (by omega))
  have hcl := canonL_map clD cl_canon l
  unfold CyF at hC
  by_cases h0 : chkF l = 0
  · rw [if_neg (by simp [h0])] at hC
    have hzc : ∀ h : Heap, each (frz h depth) [clsD l, .val (.slice none 0 0)] = some ([clsD l, intsD []], []) := fun h => by
      simp only [each_cons, each_nil]
      have e : frz h depth (clsD l) = some (clsD l, []) := by
        have hc : (clsD l).canon = true := by simp [clsD, hcl]
        unfold depth frz; rw [if_pos hc]
      rw [e]
      rfl
    have c13 := fun h => call_frz (h := h) (pg := pg) (f := 13) rfl (hzc h) (chrono_run l [] (by simp) (f := m) (by omega))
    rw [h0] at c11 c12
    simp only [clsD, intsD, List.map_nil] at c11 c12 c13
    by_cases hb : badF l = true
    · rw [if_pos hb] at hC
      obtain ⟨q1, q2, q3⟩ := hC
      have ec : chrD l [] = .tup [dtsD (chrL l []), D.int 25] := by unfold chrD cerF; simp [h0, hb]
      rw [ec] at c13
      have c14 := fun h => call_of (h := h) (pg := pg) (f := 14) rfl (stp_canon l C) (@rcyc_run l C m (by omega))
      rw [q3] at c14
      have c15 := fun h => call_of (h := h) (pg := pg) (f := 15) rfl (cls_canon l) (poss_run l h0 (f := m) (by omega))
      rw [hb] at c15
      have ecl : chrL l [] = [] := by unfold chrL cerF; simp [h0, hb]
      rw [ecl] at c13
      have q1' : ((C.length : Int) > 0) := by omega
      have q2' : ((C.length : Int) ≤ 64) := by omega
      simp only [clsD, stsD, dtsD, List.map_nil] at c14 c15 c11 c13
      simp [k4, Env.v_ini, clsD, D.cells, D.one, c11, c12, c13, c14, c15, hsn, q1, q2, q1', q2']
    · have hb' : badF l = false := by simpa using hb
      rw [if_neg hb] at hC
      subst hC
      have ec : chrD l [] = .tup [dtsD (chrL l []), D.int 0] := by unfold chrD cerF; simp [h0, hb']
      rw [ec] at c13
      have hkp := chr_ok h0 hb' []
      obtain ⟨T, hT⟩ : ∃ T, T = chrL l [] := ⟨_, rfl⟩
      have hTl : T.length ≤ 64 := by
        rw [hT]; unfold chrL
        split
        · rw [lsF_len]; exact (chk_ok h0).2.2
        · simp
      rw [← hT] at hkp c13
      have hcd := canonL_map dtD dt_canon T
      have c9 := fun h => call_of (h := h) (pg := pg) (f := 9) (args := [clsD l, dtsD T]) rfl (by simp [clsD, dtsD, hcl, hcd]) (rkeep_run l T (by omega) (n := m) (by omega))
      rw [hkp] at c9
      simp only [clsD, stsD, dtsD, List.map_nil] at c9 c11 c13
      simp [k4, Env.v_ini, clsD, D.cells, D.one, c9, c11, c12, c13, hsn]
  · rw [if_pos h0] at hC
    subst hC
    have h0' : (chkF l != 0) = true := by simpa using h0
    simp only [clsD, stsD] at c11 c12
    simp [-bne_iff_ne, k4, Env.v_ini, clsD, D.cells, D.one, c11, c12, h0', hsn]
end Go.Proofs.YtfemldhlanoakaaGreatDoor
