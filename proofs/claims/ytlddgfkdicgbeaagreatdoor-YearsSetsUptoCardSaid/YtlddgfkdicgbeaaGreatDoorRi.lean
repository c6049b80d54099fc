/- A run is put into a set, by the document. -/
import Derived.Test.YtlddgfkdicgbeaaGreatDoorRe
namespace Go.Proofs.YtlddgfkdicgbeaaGreatDoor
open Go Go.Em
set_option maxRecDepth 100000
theorem clip_run (p : Rn) {n : Nat} (hn : 1 ≤ n) : pureCall (rc pg n) 31 [.agg [D.int p.1, D.int p.2]] = some (.ret (.agg [D.int (Runs.clipR p).1, D.int (Runs.clipR p).2])) := by
  obtain ⟨m, rfl, e⟩ := body (pg := pg) (f := 31) (args := [.agg [D.int p.1, D.int p.2]]) (show 0 < n by omega) rfl rfl
  rw [e]
  have e1 : (Runs.clipR p).1 = max p.1 (-1000000000) := rfl
  have e2 : (Runs.clipR p).2 = min p.2 1000000000 := rfl
  simp [k31, Env.v_ini, D.cells, D.one, ← e1, ← e2]
def PuI (L : List Rn) (T : List Rn) (k : Nat) (s : St) : Prop := ∃ (x : Env 82) (h : Heap) (i : Nat) (d : D) (O : List Rn) (r : Rn) (dn : Bool), s = ⟨x.l, h, []⟩ ∧ i + k = L.length ∧ x.v 0 = rnsD L ∧ x.v 3 = .ptr 3 0 ∧ x.v 5 = d ∧ x.v 6 = D.bool dn ∧ x.v 7 = D.int i ∧ h.get 3 = some (.cells 40 [D.int r.1, D.int r.2]) ∧ GR h d O ∧ blkOf d ≠ some 3 ∧ O.length ≤ i + (if dn = true then 1 else 0) ∧ Runs.okR r ∧ h.Fr ∧ 3 < h.next ∧ O ++ Runs.putG (L.drop i) r dn = T
set_option maxHeartbeats 16000000 in
theorem pu_round2 (L T : List Rn) (hL : L.length ≤ 2000000000) (hok : ∀ s, s ∈ L → Runs.okR s) : ∀ n, 1 ≤ n → ∀ k s, PuI L T k s → Res (k30l0.ev ⟨pg, 82, none⟩ (rc pg n) s) (Rnd (PuI L T) (fun x s => x = .exit 0 ∧ PuI L T 0 s) k) := by
  rintro n hn k s ⟨x, h, i, d, O, r, dn, rfl, hik, v0, v3, v5, v6, v7, g3, hd, hb3, hOl, hr, hf, hn3, hT⟩
  simp only [rnsD] at v0
  by_cases hi : i < L.length
  · obtain ⟨s, hs⟩ : ∃ s, L[i] = s := ⟨_, rfl⟩
    have hso : Runs.okR s := hs ▸ hok _ (List.getElem_mem hi)
    obtain ⟨o1, o2, o3⟩ := hso
    obtain ⟨q1, q2, q3⟩ := id hr
    have hF : Runs.FAR = 1000000000 := rfl
    rw [List.drop_eq_getElem_cons hi, hs, Runs.putG] at hT
    have w1 : IntKind.i64.wrap ((i : Int) + 1) = (i : Int) + 1 := wrap_i64 (by omega) (by omega)
    have w2 : IntKind.i64.wrap (s.2 + 1) = s.2 + 1 := wrap_i64 (by omega) (by omega)
    have w3 : IntKind.i64.wrap (r.2 + 1) = r.2 + 1 := wrap_i64 (by omega) (by omega)
    have hfr : ∀ j, h.raw (h.next + j) = none := fun j => hf _ (by omega)
    have a3 : ∀ j, (h.next + j = 3) = False := fun j => by simp; omega
    have b3 : ∀ j, (3 = h.next + j) = False := fun j => by simp; omega
    have hO2 : O.length ≤ 2000000002 := by split at hOl <;> omega
    by_cases c1 : s.2 + 1 < r.1
    · rw [if_pos c1] at hT
      have hT' : (O ++ [s]) ++ Runs.putG (L.drop (i + 1)) r dn = T := by rw [← hT]; simp
      rcases hd with ⟨hO0, rfl⟩ | ⟨kk, rfl, hg, hkk⟩
      · subst hO0
        simp [k30l0, v0, v3, v5, v7, hi, hs, w1, w2, g3, D.cells, D.one, hfr, Nat.add_assoc, rnD, rnC, c1, zerosD, apK_some, room, maxLen, List.range_succ]
        refine ⟨k - 1, by omega, _, _, i + 1, .slr (h.next + 199) 0 1 2 none, [s], r, dn, rfl, by omega, by simp [v0, rnsD], by simp [v3], by simp, by simp [v6], by simp, by simp [g3], .inr ⟨h.next + 199, by simp, by simp [rnC], by simp⟩, by intro hh; have := Option.some.inj hh; omega, by simp at hOl ⊢ <;> omega, hr, ?_, by simp <;> omega, by simpa using hT'⟩
        repeat' first | exact hf | apply Heap.Fr.bump | apply Heap.Fr.set
        all_goals (simp <;> omega)
      · have ne1 : ∀ j, (h.next + j = kk) = False := fun j => by simp; omega
        have ne2 : ∀ j, (kk = h.next + j) = False := fun j => by simp; omega
        have k3 : (kk = 3) = False := by simp; intro hh; exact hb3 (by rw [hh]; rfl)
        have k3' : (3 = kk) = False := by simp; intro hh; exact hb3 (by rw [hh]; rfl)
        have happ := fun t hh news => appS_none (t := t) (et := 40) (sz := 2) (bytes := 16) (h := hh) (m := 1) (news := news) (k := kk) (n := O.length) (cs := O.flatMap rnC) (cells_rn O) (by omega) (by unfold room; omega) (by unfold maxLen; omega)
        simp [k30l0, v0, v3, v5, v7, hi, hs, w1, w2, g3, D.cells, D.one, hfr, Nat.add_assoc, rnD, rnC, c1, zerosD, apK_some, List.range_succ, hg, ne1, ne2, happ]
        refine ⟨k - 1, by omega, _, _, i + 1, .slr (h.next + 199) 0 (O.length + 1) 2 none, O ++ [s], r, dn, rfl, by omega, by simp [v0, rnsD], by simp [v3], by simp, by simp [v6], by simp, by simp [k3', g3], .inr ⟨h.next + 199, by simp, by simp [rnC], by simp⟩, by intro hh; have := Option.some.inj hh; omega, by simp at hOl ⊢ <;> omega, hr, ?_, by simp <;> omega, by simpa using hT'⟩
        repeat' first | exact hf | apply Heap.Fr.bump | apply Heap.Fr.set
        all_goals (simp <;> omega)
    · rw [if_neg c1] at hT
      by_cases c2 : r.2 + 1 < s.1
      · rw [if_pos c2] at hT
        cases dn with
        | true =>
          rw [if_pos rfl] at hT
          have hT' : (O ++ [s]) ++ Runs.putG (L.drop (i + 1)) r true = T := by rw [← hT]; simp
          rcases hd with ⟨hO0, rfl⟩ | ⟨kk, rfl, hg, hkk⟩
          · subst hO0
            simp [k30l0, v0, v3, v5, v6, v7, hi, hs, w1, w2, w3, g3, D.cells, D.one, hfr, Nat.add_assoc, rnD, rnC, c1, c2, zerosD, apK_some, room, maxLen, List.range_succ]
            refine ⟨k - 1, by omega, _, _, i + 1, .slr (h.next + 385) 0 1 2 none, [s], r, true, rfl, by omega, by simp [v0, rnsD], by simp [v3], by simp, by simp [v6], by simp, by simp [g3], .inr ⟨h.next + 385, by simp, by simp [rnC], by simp⟩, by intro hh; have := Option.some.inj hh; omega, by simp at hOl ⊢ <;> omega, hr, ?_, by simp <;> omega, by simpa using hT'⟩
            repeat' first | exact hf | apply Heap.Fr.bump | apply Heap.Fr.set
            all_goals (simp <;> omega)
          · have ne1 : ∀ j, (h.next + j = kk) = False := fun j => by simp; omega
            have ne2 : ∀ j, (kk = h.next + j) = False := fun j => by simp; omega
            have k3 : (kk = 3) = False := by simp; intro hh; exact hb3 (by rw [hh]; rfl)
            have k3' : (3 = kk) = False := by simp; intro hh; exact hb3 (by rw [hh]; rfl)
            have happ := fun t hh news => appS_none (t := t) (et := 40) (sz := 2) (bytes := 16) (h := hh) (m := 1) (news := news) (k := kk) (n := O.length) (cs := O.flatMap rnC) (cells_rn O) (by omega) (by unfold room; omega) (by unfold maxLen; omega)
            simp [k30l0, v0, v3, v5, v6, v7, hi, hs, w1, w2, w3, g3, D.cells, D.one, hfr, Nat.add_assoc, rnD, rnC, c1, c2, zerosD, apK_some, List.range_succ, hg, ne1, ne2, happ]
            refine ⟨k - 1, by omega, _, _, i + 1, .slr (h.next + 385) 0 (O.length + 1) 2 none, O ++ [s], r, true, rfl, by omega, by simp [v0, rnsD], by simp [v3], by simp, by simp [v6], by simp, by simp [k3', g3], .inr ⟨h.next + 385, by simp, by simp [rnC], by simp⟩, by intro hh; have := Option.some.inj hh; omega, by simp at hOl ⊢ <;> omega, hr, ?_, by simp <;> omega, by simpa using hT'⟩
            repeat' first | exact hf | apply Heap.Fr.bump | apply Heap.Fr.set
            all_goals (simp <;> omega)
        | false =>
          rw [if_neg (by simp)] at hT
          have hT' : (O ++ [r, s]) ++ Runs.putG (L.drop (i + 1)) r true = T := by rw [← hT]; simp
          rcases hd with ⟨hO0, rfl⟩ | ⟨kk, rfl, hg, hkk⟩
          · subst hO0
            have happ := fun (t k : Nat) hh news (cs : List D) (hc : cs.length = 1 * 2) => appS_none (t := t) (et := 40) (sz := 2) (bytes := 16) (h := hh) (m := 1) (news := news) (k := k) (n := 1) (cs := cs) hc (by omega) (by unfold room; omega) (by unfold maxLen; omega)
            simp [k30l0, v0, v3, v5, v6, v7, hi, hs, w1, w2, w3, g3, D.cells, D.one, hfr, Nat.add_assoc, rnD, rnC, c1, c2, zerosD, apK_some, room, maxLen, List.range_succ, happ]
            refine ⟨k - 1, by omega, _, _, i + 1, .slr (h.next + 549) 0 2 2 none, [r, s], r, true, rfl, by omega, by simp [v0, rnsD], by simp [v3], by simp, by simp, by simp, by simp [g3], .inr ⟨h.next + 549, by simp, by simp [rnC], by simp⟩, by intro hh; have := Option.some.inj hh; omega, by simp at hOl ⊢ <;> omega, hr, ?_, by simp <;> omega, by simpa using hT'⟩
            repeat' first | exact hf | apply Heap.Fr.bump | apply Heap.Fr.set
            all_goals (simp <;> omega)
          · have ne1 : ∀ j, (h.next + j = kk) = False := fun j => by simp; omega
            have ne2 : ∀ j, (kk = h.next + j) = False := fun j => by simp; omega
            have k3 : (kk = 3) = False := by simp; intro hh; exact hb3 (by rw [hh]; rfl)
            have k3' : (3 = kk) = False := by simp; intro hh; exact hb3 (by rw [hh]; rfl)
            have hcl := cells_rn O
            have happ := fun t hh news => appS_none (t := t) (et := 40) (sz := 2) (bytes := 16) (h := hh) (m := 1) (news := news) (k := kk) (n := O.length) (cs := O.flatMap rnC) hcl (by omega) (by unfold room; omega) (by unfold maxLen; omega)
            have happ2 := fun (t k : Nat) hh news (x y : D) => appS_none (t := t) (et := 40) (sz := 2) (bytes := 16) (h := hh) (m := 1) (news := news) (k := k) (n := O.length + 1) (cs := O.flatMap rnC ++ [x, y]) (by simp [hcl]; omega) (by omega) (by unfold room; omega) (by unfold maxLen; omega)
            simp [k30l0, v0, v3, v5, v6, v7, hi, hs, w1, w2, w3, g3, D.cells, D.one, hfr, Nat.add_assoc, rnD, rnC, c1, c2, zerosD, apK_some, List.range_succ, hg, ne1, ne2, happ, happ2]
            refine ⟨k - 1, by omega, _, _, i + 1, .slr (h.next + 549) 0 (O.length + 2) 2 none, O ++ [r, s], r, true, rfl, by omega, by simp [v0, rnsD], by simp [v3], by simp, by simp, by simp, by simp [k3', g3], .inr ⟨h.next + 549, by simp, by simp [rnC], by simp⟩, by intro hh; have := Option.some.inj hh; omega, by simp at hOl ⊢ <;> omega, hr, ?_, by simp <;> omega, by simpa using hT'⟩
            repeat' first | exact hf | apply Heap.Fr.bump | apply Heap.Fr.set
            all_goals (simp <;> omega)
      · rw [if_neg c2] at hT
        simp [k30l0, v0, v3, v7, hi, hs, w1, w2, w3, g3, D.cells, D.one, Nat.add_assoc, rnD, rnC, c1, c2]
        have hr' : Runs.okR (min r.1 s.1, max r.2 s.2) := ⟨by show -Runs.FAR ≤ min r.1 s.1; omega, by show min r.1 s.1 ≤ max r.2 s.2; omega, by show max r.2 s.2 ≤ Runs.FAR; omega⟩
        refine ⟨k - 1, by omega, _, _, i + 1, d, O, (min r.1 s.1, max r.2 s.2), dn, rfl, by omega, by simp [v0, rnsD], by simp [v3], by simp [v5], by simp [v6], by simp, by simp, (((((hd.bump _).bump _).bump _).bump _).set hb3 _).bump _, hb3, by omega, hr', ?_, by simp <;> omega, hT⟩
        repeat' first | exact hf | apply Heap.Fr.bump | apply Heap.Fr.set
        all_goals (simp <;> omega)
  · simp [k30l0, v0, v7, hi]
    exact ⟨_, _, i, d, O, r, dn, rfl, by omega, by simp [v0, rnsD], by simp [v3], by simp [v5], by simp [v6], by simp [v7], by simp [g3], hd.bump _, hb3, hOl, hr, hf.bump _, by simp <;> omega, hT⟩
end Go.Proofs.YtlddgfkdicgbeaaGreatDoor
/- The document's sets: Normal, Union, Common. -/
namespace Go.Proofs.YtlddgfkdicgbeaaGreatDoor
open Go Go.Em
set_option maxRecDepth 100000
set_option maxHeartbeats 8000000 in
theorem put_run {L : List Rn} {r : Rn} (hL : L.length ≤ 2000000000) (hok : ∀ s, s ∈ L → Runs.okR s) (r1 : -Runs.FAR ≤ r.1) (r2 : r.2 ≤ Runs.FAR) {n : Nat} (hn : L.length + 10 ≤ n) : pureCall (rc pg n) 30 [rnsD L, .agg [D.int r.1, D.int r.2]] = some (.ret (rnsD (Runs.putF L r))) := by
  obtain ⟨m, rfl, e⟩ := body (pg := pg) (f := 30) (args := [rnsD L, .agg [D.int r.1, D.int r.2]]) (show 0 < n by omega) rfl rfl
  rw [e]
  unfold Runs.putF
  by_cases h0 : r.1 > r.2
  · rw [if_pos h0]
    have h0' : r.2 < r.1 := h0
    simp [k30, Env.v_ini, rnsD, D.cells, D.one, h0']
    rw [each_canon _ 22 _ (rn_can L)]
    exact ⟨_, rfl⟩
  · rw [if_neg h0]
    have h0' : ¬ r.2 < r.1 := h0
    simp [k30, Env.v_ini, rnsD, D.cells, D.one, h0', ev_loop]
    refine Res.endsAfter (lp_rule 1 (PuI L (Runs.putG L r false)) _ (pu_round2 L _ hL hok) L.length m _ (by omega) ⟨_, _, 0, .val (.slice none 0 0), [], r, false, rfl, by omega, by simp [Env.v_ini, rnsD], by simp, by simp, by simp, by simp, by simp, .inl ⟨rfl, rfl⟩, (by intro h; cases h), by simp, ⟨r1, by omega, r2⟩, ?_, by simp, by simp⟩) ?_
    · repeat' first | exact Heap.Fr.empty | apply Heap.Fr.bump | apply Heap.Fr.set
      all_goals (simp <;> omega)
    rintro x s ⟨rfl, x, h, i, d, O, q, dn, rfl, hi, v0, v3, v5, v6, v7, g3, hd, hb3, hOl, hr, hf, hn3, hT⟩
    obtain rfl : i = L.length := by omega
    rw [List.drop_length, Runs.putG] at hT
    have hfr : ∀ j, h.raw (h.next + j) = none := fun j => hf _ (by omega)
    have a3 : ∀ j, (h.next + j = 3) = False := fun j => by simp; omega
    have b3 : ∀ j, (3 = h.next + j) = False := fun j => by simp; omega
    cases dn with
    | true =>
      rw [if_pos rfl, List.append_nil] at hT
      subst hT
      obtain ⟨ks, hz⟩ := ((hd.bump 82).bump 82).frz4
      simp only [rnsD] at hz ⊢
      simp [v5, v6]
      rw [hz]
      exact ⟨_, rfl⟩
    | false =>
      rw [if_neg (by simp)] at hT
      rw [if_neg (by simp)] at hOl
      rcases hd with ⟨hO0, rfl⟩ | ⟨kk, rfl, hg, hkk⟩
      · subst hO0
        rw [List.nil_append] at hT
        rw [← hT]
        simp [v3, v5, v6, g3, D.cells, D.one, hfr, Nat.add_assoc, zerosD, apK_some, room, maxLen, List.range_succ]
        rfl
      · have ne1 : ∀ j, (h.next + j = kk) = False := fun j => by simp; omega
        have ne2 : ∀ j, (kk = h.next + j) = False := fun j => by simp; omega
        have happ := fun t hh news => appS_none (t := t) (et := 40) (sz := 2) (bytes := 16) (h := hh) (m := 1) (news := news) (k := kk) (n := O.length) (cs := O.flatMap rnC) (cells_rn O) (by omega) (by unfold room; omega) (by unfold maxLen; omega)
        simp [v3, v5, v6, g3, D.cells, D.one, hfr, Nat.add_assoc, zerosD, apK_some, List.range_succ, hg, ne1, ne2, happ]
        have hq : O.flatMap rnC ++ [D.int q.1, D.int q.2] = (O ++ [q]).flatMap rnC := by simp [rnC]
        have hsum : (List.map (fun a => (rnC a).length) O).sum = O.length * 2 := by rw [← List.length_flatMap]; exact cells_rn O
        refine ⟨by omega, _, _, _, (by rw [hq, List.take_of_length_le (by rw [cells_rn]; simp), each_canon _ 22 _ (canonL_flatMap rnC (fun c => by simp [rnC]) _)]), ?_, rfl⟩
        rw [rn_chunk _ _ (by simp), hT]
def TN (d : D) (L : List Rn) : Prop := d = rnsD L ∨ (L = [] ∧ d = .val (.slice none 0 0))
theorem put_call {L : List Rn} {r : Rn} {d : D} (g : TN d L) (hL : L.length ≤ 2000000000) (hok : ∀ s, s ∈ L → Runs.okR s) (r1 : -Runs.FAR ≤ r.1) (r2 : r.2 ≤ Runs.FAR) {n : Nat} (hn : L.length + 10 ≤ n) (h : Heap) : call pg (rc pg n) 30 [d, .agg [D.int r.1, D.int r.2]] h = some (.ret (rnsD (Runs.putF L r)), h) := by
  have x := put_run hL hok r1 r2 hn
  have ha : ∃ bs, each (Go.Em.frz h depth) [d, .agg [D.int r.1, D.int r.2]] = some (bs, []) ∧ bs = [rnsD L, .agg [D.int r.1, D.int r.2]] := by
    rcases g with rfl | ⟨rfl, rfl⟩
    · refine ⟨_, each_canon h 23 _ ?_, rfl⟩
      have := rn_can L
      simp [rnsD, this]
    · exact ⟨_, rfl, rfl⟩
  obtain ⟨bs, ha, rfl⟩ := ha
  simp only [call, show pg.sh 30 = false from rfl, ha, pureA, pureS, x, orS, Option.map_some, Bool.false_eq_true, if_false, List.isEmpty_nil, Bool.true_or, if_true]
theorem TN.frz {d : D} {L : List Rn} (g : TN d L) (h : Heap) : ∃ ks, Go.Em.frz h 24 d = some (rnsD L, ks) := by
  rcases g with rfl | ⟨rfl, rfl⟩
  · exact ⟨_, rns_frz L h⟩
  · exact ⟨[], rfl⟩
theorem putG_len : ∀ (L : List Rn) (r : Rn) (dn : Bool), (Runs.putG L r dn).length ≤ L.length + 1
  | [], r, dn => by rw [Runs.putG]; split <;> simp
  | s :: L, r, dn => by
    have h1 := fun r => putG_len L r dn
    have h2 := putG_len L r true
    rw [Runs.putG, List.length_cons]
    split
    · rw [List.length_cons]; have := h1 r; omega
    · split
      · split
        · rw [List.length_cons]; omega
        · rw [List.length_cons, List.length_cons]
          have h3 : (Runs.putG L r true).length ≤ L.length := putG_lenT L r
          omega
      · have := h1 (min r.1 s.1, max r.2 s.2); omega
where putG_lenT : ∀ (L : List Rn) (r : Rn), (Runs.putG L r true).length ≤ L.length
  | [], r => by rw [Runs.putG, if_pos rfl]; simp
  | s :: L, r => by
    rw [Runs.putG, List.length_cons]
    split
    · rw [List.length_cons]; have := putG_lenT L r; omega
    · split
      · rw [if_pos rfl, List.length_cons]; have := putG_lenT L r; omega
      · have := putG_lenT L (min r.1 s.1, max r.2 s.2); omega
theorem putF_len (L : List Rn) (r : Rn) : (Runs.putF L r).length ≤ L.length + 1 := by
  unfold Runs.putF
  split
  · omega
  · exact putG_len L r false
theorem addL_snoc (o l : List Rn) (r : Rn) : Runs.addL o (l ++ [r]) = Runs.putF (Runs.addL o l) (Runs.clipR r) := by unfold Runs.addL; rw [List.foldl_append]; rfl
theorem addL_len (l : List Rn) : ∀ o : List Rn, (Runs.addL o l).length ≤ o.length + l.length := by
  induction l with
  | nil => intro o; exact Nat.le_refl _
  | cons r l ih =>
    intro o
    have := ih (Runs.putF o (Runs.clipR r))
    have h2 := putF_len o (Runs.clipR r)
    show (Runs.addL (Runs.putF o (Runs.clipR r)) l).length ≤ _
    rw [List.length_cons]; omega
def RnI (O l : List Rn) (k : Nat) (s : St) : Prop := ∃ (x : Env 19) (h : Heap) (i : Nat) (d : D), s = ⟨x.l, h, []⟩ ∧ i + k = l.length ∧ x.v 0 = rnsD l ∧ x.v 3 = d ∧ x.v 4 = D.int i ∧ TN d (Runs.addL O (l.take i))
set_option maxHeartbeats 8000000 in
theorem rn_round (l : List Rn) (hl : l.length ≤ 4000000) : ∀ n, 4000020 ≤ n → ∀ k s, RnI [] l k s → Res (k11l0.ev ⟨pg, 19, none⟩ (rc pg n) s) (Rnd (RnI [] l) (fun x s => x = .exit 0 ∧ RnI [] l 0 s) k) := by
  rintro n hn k s ⟨x, h, i, d, rfl, hik, v0, v3, v4, hd⟩
  simp only [rnsD] at v0
  by_cases hi : i < l.length
  · obtain ⟨r, hr⟩ : ∃ r, l[i] = r := ⟨_, rfl⟩
    have hsn := addL_snoc [] (l.take i) r
    rw [← hr, ← take_snoc hi, hr] at hsn
    have w1 : IntKind.i64.wrap ((i : Int) + 1) = (i : Int) + 1 := wrap_i64 (by omega) (by omega)
    have hlen := addL_len (l.take i) []
    have hle2 : (l.take i).length ≤ i := by simp; omega
    have c1 := fun h => call_of (h := h) (pg := pg) (f := 31) rfl (show D.canonL [.agg [D.int r.1, D.int r.2]] = true by simp) (clip_run r (n := n) (by omega))
    obtain ⟨N1, _⟩ := Runs.addL_ok (l := l.take i) Runs.nf_nil
    obtain ⟨f1, f2⟩ := Runs.clipR_far r
    have c2 := put_call hd (by simp at hlen; omega) N1.1 f1 f2 (n := n) (by simp at hlen; omega)
    simp [k11l0, v0, v3, v4, hi, hr, w1, D.cells, rnD, rnC, c1, c2]
    exact ⟨k - 1, by omega, _, _, i + 1, _, rfl, by omega, by simp [v0, rnsD], rfl, by simp, .inl (by rw [hsn]; simp)⟩
  · simp [k11l0, v0, v4, hi]
    exact ⟨_, _, i, d, rfl, by omega, by simp [v0, rnsD], by simp [v3], by simp [v4], hd⟩
set_option maxHeartbeats 4000000 in
theorem rnorm_run (l : List Rn) (hl : l.length ≤ 4000000) {n : Nat} (hn : 8000030 ≤ n) : pureCall (rc pg n) 11 [rnsD l] = some (.ret (rnsD (Runs.rnorm l))) := by
  obtain ⟨m, rfl, e⟩ := body (pg := pg) (f := 11) (args := [rnsD l]) (show 0 < n by omega) rfl rfl
  rw [e]
  simp [k11, rnsD, ev_loop]
  refine Res.endsAfter (lp_rule 4000020 (RnI [] l) _ (rn_round l hl) l.length m _ (by omega) ⟨_, _, 0, .val (.slice none 0 0), rfl, by omega, by simp [Env.v_ini, rnsD], by simp, by simp, .inr ⟨rfl, rfl⟩⟩) ?_
  rintro x s ⟨rfl, x, h, i, d, rfl, hi, v0, v3, v4, hd⟩
  obtain rfl : i = l.length := by omega
  rw [List.take_length] at hd
  obtain ⟨ks, hz⟩ := hd.frz (h.bump 19)
  simp only [rnsD] at hz ⊢
  simp [v3]
  rw [hz]
  exact ⟨_, rfl⟩
end Go.Proofs.YtlddgfkdicgbeaaGreatDoor
