/- The greatest number of claims of a choice; the marks of a world: by the program. -/
import Derived.Test.YtlfknfknlcgfcaaGreatDoorY1
namespace Go.Proofs.YtlfknfknlcgfcaaGreatDoor
open Go Go.Em
set_option maxRecDepth 100000
def YmI (q : Qst) (k : Nat) (s : St) : Prop := ∃ (x : Env 19) (h : Heap) (i : Nat), s = ⟨x.l, h, []⟩ ∧ i + k = q.ch.length ∧ x.v 3 = D.int (mostF (q.ch.take i) : Nat) ∧ x.v 7 = chD q.ch ∧ x.v 8 = D.int q.ch.length ∧ x.v 9 = D.int i ∧ h.Fr
set_option maxHeartbeats 2000000 in
theorem ym_round (q : Qst) (hlen : q.ch.length ≤ 60) : ∀ n, 2 ≤ n → ∀ k s, YmI q k s → Res (k129l0.ev ⟨pg, 19, none⟩ (rc pg n) s) (Rnd (YmI q) (fun x s => x = .exit 0 ∧ YmI q 0 s) k) := by
  rintro n hn k s ⟨x, h, i, rfl, hik, v3, v7, v8, v9, hf⟩
  simp only [chD] at v7
  by_cases hi : i < q.ch.length
  · obtain ⟨l, hl⟩ : ∃ l, q.ch[i] = l := ⟨_, rfl⟩
    have w1 : IntKind.i64.wrap ((i : Int) + 1) = (i : Int) + 1 := wrap_i64 (by omega) (by omega)
    have hsn : mostF (q.ch.take (i + 1)) = max (mostF (q.ch.take i)) l.length := by rw [List.take_add_one, List.getElem?_eq_getElem hi, hl]; exact most_snoc _ _
    obtain ⟨m, hm⟩ : ∃ m, m = mostF (q.ch.take i) := ⟨_, rfl⟩
    rw [← hm] at v3 hsn
    simp [k129l0, v3, v7, v8, v9, hi, hl, clsD, D.cells, w1]
    refine ⟨k - 1, by omega, _, _, i + 1, rfl, by omega, ?_, by simp [v7, chD], by simp [v8], by simp, by repeat' first | exact hf | apply Heap.Fr.bump⟩
    rw [hsn]
    simp
    try omega
  · simp [k129l0, v8, v9, hi]
    exact ⟨_, _, i, rfl, by omega, by simp [v3], by simp [v7, chD], by simp [v8], by simp [v9], hf.bump _⟩
theorem most_run (q : Qst) (hlen : q.ch.length ≤ 60) {n : Nat} (hn : 100 ≤ n) : pureCall (rc pg n) 129 [qD q] = some (.ret (D.int (mostF q.ch : Nat))) := by
  obtain ⟨m, rfl, e⟩ := body (pg := pg) (f := 129) (args := [qD q]) (show 0 < n by omega) rfl rfl
  rw [e]
  simp [k129, Env.v_ini, qD, qC, chD, D.cells, D.one, ev_loop]
  refine Res.endsAfter (lp_rule 2 (YmI q) _ (ym_round q hlen) q.ch.length m _ (by omega) ⟨_, _, 0, rfl, by omega, by simp [mostF], by simp [chD], by simp, by simp, ?_⟩) ?_
  · repeat' first | exact Heap.Fr.empty | apply Heap.Fr.bump | apply Heap.Fr.set
    all_goals simp
  · rintro y s ⟨rfl, x, h, i, rfl, hi, v3, _, _, _, _⟩
    have hil : i = q.ch.length := by omega
    subst hil
    rw [List.take_length] at v3
    simp [v3]
end Go.Proofs.YtlfknfknlcgfcaaGreatDoor
/- The marks of a world, by the program. -/
namespace Go.Proofs.YtlfknfknlcgfcaaGreatDoor
open Go Go.Em
set_option maxRecDepth 100000
def mkOk (c : Clm) : Prop := (0 ≤ c.a ∧ c.a ≤ 2048) ∧ (0 ≤ c.b ∧ c.b ≤ 2048)
def YwI (q : Qst) (L : List Clm) (x0 : Env 30) (b : Nat) (k : Nat) (s : St) : Prop := ∃ (x : Env 30) (h : Heap) (W : List Nat) (i : Nat), s = ⟨x.l, h, []⟩ ∧ i + k = q.ch.length ∧ (∀ j, 12 ≤ j → j < 15 → x.v j = x0.v j) ∧ x.v 3 = .ptr b 0 ∧ x.v 19 = chD q.ch ∧ x.v 20 = D.int q.ch.length ∧ x.v 21 = D.int i ∧ h.get b = some (.cells 196 (W.map wordD)) ∧ b < h.next ∧ HasSet W (L ++ (q.ch.take i).flatten) ∧ h.Fr
set_option maxHeartbeats 2000000 in
theorem yw_round (q : Qst) (L : List Clm) (x0 : Env 30) (b M : Nat) (hlen : q.ch.length ≤ 60) (hM : ∀ l ∈ q.ch, l.length ≤ M) (hM2 : M ≤ 9223372036854775806) (hq : ∀ l ∈ q.ch, ∀ c ∈ l, mkOk c) : ∀ n, M + 10 ≤ n → ∀ k s, YwI q L x0 b k s → Res (k101l0.ev ⟨pg, 30, none⟩ (rc pg n) s) (Rnd (YwI q L x0 b) (fun x s => x = .exit 2 ∧ YwI q L x0 b 0 s) k) := by
  rintro n hn k s ⟨x, h, W, i, rfl, hik, vs, v3, v19, v20, v21, hg, hb, hS, hf⟩
  simp only [chD] at v19
  by_cases hi : i < q.ch.length
  · obtain ⟨l, hl⟩ : ∃ l, q.ch[i] = l := ⟨_, rfl⟩
    have hmem : l ∈ q.ch := by rw [← hl]; exact List.getElem_mem hi
    have hlm := hM l hmem
    have w1 : IntKind.i64.wrap ((i : Int) + 1) = (i : Int) + 1 := wrap_i64 (by omega) (by omega)
    have htk : (q.ch.take (i + 1)).flatten = (q.ch.take i).flatten ++ l := by rw [List.take_add_one, List.getElem?_eq_getElem hi, hl]; simp
    have s53 : pg.sh 158 = true := rfl
    obtain ⟨H, hH⟩ : ∃ H, H = ((h.bump 30).bump 30).bump 30 := ⟨_, rfl⟩
    obtain ⟨h', W', r1, hg', hS', hf', u1, u2⟩ := addc_sh (L ++ (q.ch.take i).flatten) l (b := b) (h := H) (W := W) (by rw [hH]; simpa using hg) (by rw [hH]; simp; omega) hS (by rw [hH]; exact ((hf.bump _).bump _).bump _) (fun c hc => hq l hmem c hc) (by omega) (n := n) (by omega)
    have c1 := call_sh s53 r1
    simp only [clsD] at c1
    rw [List.append_assoc, ← htk] at hS'
    simp [k101l0, v3, v19, v20, v21, hi, hl, clsD, D.cells, ← hH, c1, w1]
    refine ⟨k - 1, by omega, _, _, W', i + 1, rfl, by omega, fun j h1 h2 => ?_, by simp [v3], by simp [v19, chD], by simp [v20], by simp, by simp [hg'], ?_, hS', by repeat' first | exact hf' | apply Heap.Fr.bump⟩
    · have ne : ∀ t, 15 ≤ t → (t = j) = False := fun t ht => by simp; omega
      have ne6 : (7 = j) = False := by simp; omega
      simp [ne, ne6, vs j h1 h2]
    · rw [hH] at u1
      simp at u1 ⊢
      omega
  · simp [k101l0, v20, v21, hi]
    exact ⟨_, _, W, i, rfl, by omega, fun j h1 h2 => by
      have ne : ∀ t, 15 ≤ t → (t = j) = False := fun t ht => by simp; omega
      simp [ne, vs j h1 h2], by simp [v3], by simp [v19, chD], by simp [v20], by simp [v21], by simp [hg], by simp; omega, hS, hf.bump _⟩
def YvI (w : Wld) (b : Nat) (k : Nat) (s : St) : Prop := ∃ (x : Env 30) (h : Heap) (W : List Nat) (i : Nat), s = ⟨x.l, h, []⟩ ∧ i + k = w.qs.length ∧ x.v 3 = .ptr b 0 ∧ x.v 12 = qsD w.qs ∧ x.v 13 = D.int w.qs.length ∧ x.v 14 = D.int i ∧ h.get b = some (.cells 196 (W.map wordD)) ∧ b < h.next ∧ HasSet W (w.cl ++ (w.qs.take i).flatMap fun q => q.ch.flatten) ∧ h.Fr
set_option maxHeartbeats 2000000 in
theorem yv_round (w : Wld) (b M : Nat) (hqs : w.qs.length ≤ 6) (hlen : ∀ q ∈ w.qs, q.ch.length ≤ 60) (hM : ∀ q ∈ w.qs, ∀ l ∈ q.ch, l.length ≤ M) (hM2 : M ≤ 9223372036854775806) (hq : ∀ q ∈ w.qs, ∀ l ∈ q.ch, ∀ c ∈ l, mkOk c) : ∀ n, M + 80 ≤ n → ∀ k s, YvI w b k s → Res (k101l1.ev ⟨pg, 30, none⟩ (rc pg n) s) (Rnd (YvI w b) (fun x s => x = .exit 0 ∧ YvI w b 0 s) k) := by
  rintro n hn k s ⟨x, h, W, i, rfl, hik, v3, v12, v13, v14, hg, hb, hS, hf⟩
  simp only [qsD] at v12
  by_cases hi : i < w.qs.length
  · obtain ⟨q, hl⟩ : ∃ q, w.qs[i] = q := ⟨_, rfl⟩
    have hmem : q ∈ w.qs := by rw [← hl]; exact List.getElem_mem hi
    have w1 : IntKind.i64.wrap ((i : Int) + 1) = (i : Int) + 1 := wrap_i64 (by omega) (by omega)
    have htk : ((w.qs.take (i + 1)).flatMap fun q => q.ch.flatten) = ((w.qs.take i).flatMap fun q => q.ch.flatten) ++ q.ch.flatten := by rw [List.take_add_one, List.getElem?_eq_getElem hi, hl]; simp
    have hfr : ∀ j, h.raw (h.next + j) = none := fun j => hf _ (by omega)
    have ne1 : ∀ j, (b = h.next + j) = False := fun j => by simp; omega
    have h60 := hlen q hmem
    simp [k101l1, v12, v13, v14, hi, hl, qD, qC, chD, D.cells, D.one, hfr, Nat.add_assoc, ev_loop]
    refine Res.yb (lp_rule (M + 10) (YwI q (w.cl ++ (w.qs.take i).flatMap fun q => q.ch.flatten) _ b) _ (yw_round q _ _ b M h60 (hM q hmem) hM2 (hq q hmem)) q.ch.length n _ (by omega) ⟨_, _, W, 0, rfl, by omega, fun j h1 h2 => rfl, by simp [v3], by simp [chD], by simp, by simp, by simp [ne1, hg], by simp; omega, by simpa using hS, ?_⟩) ?_
    · repeat' first | exact hf | apply Heap.Fr.bump | apply Heap.Fr.set
      all_goals (simp <;> omega)
    · rintro y s ⟨rfl, y, h1, W1, i1, rfl, hi1, vs, y3, _, _, _, hg1, hb1, hS1, hf1⟩
      have i1l : i1 = q.ch.length := by omega
      subst i1l
      rw [List.take_length, List.append_assoc, ← htk] at hS1
      have y12 := vs 12 (by omega) (by omega)
      have y13 := vs 13 (by omega) (by omega)
      have y14 := vs 14 (by omega) (by omega)
      simp [v12, v13, v14] at y12 y13 y14
      simp [y14, w1]
      exact ⟨k - 1, by omega, _, _, W1, i + 1, rfl, by omega, by simp [y3], by simp [y12, qsD], by simp [y13], by simp, by simp [hg1], by simp; omega, hS1, by repeat' first | exact hf1 | apply Heap.Fr.bump⟩
  · simp [k101l1, v13, v14, hi]
    exact ⟨_, _, W, i, rfl, by omega, by simp [v3], by simp [v12, qsD], by simp [v13], by simp [v14], by simp [hg], by simp; omega, hS, hf.bump _⟩
set_option maxHeartbeats 2000000 in
theorem ow_run (w : Wld) (M : Nat) (hqs : w.qs.length ≤ 6) (hlen : ∀ q ∈ w.qs, q.ch.length ≤ 60) (hM0 : w.cl.length ≤ M) (hM : ∀ q ∈ w.qs, ∀ l ∈ q.ch, l.length ≤ M) (hM2 : M ≤ 9223372036854775806) (h0 : ∀ c ∈ w.cl, mkOk c) (hq : ∀ q ∈ w.qs, ∀ l ∈ q.ch, ∀ c ∈ l, mkOk c) {n : Nat} (hn : M + 300 ≤ n) : pureCall (rc pg n) 101 [wD w] = some (.ret (.sl false ((marksF (allF w)).map D.int))) := by
  obtain ⟨m, rfl, e⟩ := body (pg := pg) (f := 101) (args := [wD w]) (show 0 < n by omega) rfl rfl
  rw [e]
  have s53 : pg.sh 158 = true := rfl
  have s94 : pg.sh 159 = false := rfl
  have hall : ∀ c ∈ allF w, mkOk c := by
    intro c hc
    rcases List.mem_append.1 hc with hc | hc
    · exact h0 c hc
    · obtain ⟨q, h1, h2⟩ := List.mem_flatMap.1 hc
      obtain ⟨l, h3, h4⟩ := List.mem_flatten.1 h2
      exact hq q h1 l h3 c h4
  obtain ⟨H, hH⟩ : ∃ H, H = (((((Heap.empty.bump 30).set 1 (some (.cells 25 [clsD w.cl, qsD w.qs]))).bump 30).set 33 (some (.cells 196 ((List.replicate 33 0).map wordD)))).bump 30) := ⟨_, rfl⟩
  have hHf : H.Fr := by
    rw [hH]
    repeat' first | exact Heap.Fr.empty | apply Heap.Fr.bump | apply Heap.Fr.set
    all_goals simp
  have hH1 : H.get 1 = some (.cells 25 [clsD w.cl, qsD w.qs]) := by rw [hH]; simp
  have hHn : 34 ≤ H.next := by rw [hH]; simp
  obtain ⟨h', W, r1, hg, hS, hf', u1, u2⟩ := addc_sh [] w.cl (b := 33) (h := H) (W := List.replicate 33 0) (by rw [hH]; simp) (by omega) HasSet.nil hHf h0 (by omega) (n := m) (by omega)
  rw [List.nil_append] at hS
  have c1 := call_sh (pg := pg) s53 r1
  have hg1 : h'.get 1 = some (.cells 25 [clsD w.cl, qsD w.qs]) := by unfold Heap.get at hH1 ⊢; rw [u2 1 (by omega) (by omega)]; exact hH1
  simp only [clsD, qsD] at c1 hg1 hH1
  simp [List.replicate, wordD, clsD, qsD] at hH
  simp [k101, Env.v_ini, wD, clsD, qsD, D.cells, D.one, ← hH, c1, hH1, hg1, ev_loop]
  refine Res.endsAfter (lp_rule (M + 80) (YvI w 33) _ (yv_round w 33 M hqs hlen hM hM2 hq) w.qs.length m _ (by omega) ⟨_, _, W, 0, rfl, by omega, by simp, by simp [qsD], by simp, by simp, by simp [hg], by simp; omega, by simpa using hS, by repeat' first | exact hf' | apply Heap.Fr.bump⟩) ?_
  rintro y s ⟨rfl, x, h, W1, i, rfl, hi, v3, _, _, _, hg2, hb2, hS2, hf2⟩
  have hil : i = w.qs.length := by omega
  subst hil
  rw [List.take_length] at hS2
  have hS3 : HasSet W1 (allF w) := hS2
  have hr := @list_run W1 hS3.1 hS3.2.1 m (by omega)
  rw [set_marks hS3 hall] at hr
  have hz : each (frz (h.bump 30) depth) [.ptr 33 0] = some ([.eref (W1.map wordD)], [33]) := by
    have := fun h => each_canon h 22 _ (word_canon W1)
    simp [hg2, this]
  obtain ⟨h2, hcall⟩ := call_frzk (h := h.bump 30) s94 hz hr
  have hcan := fun h n => each_canon h n _ (canonL_map D.int (fun _ => rfl) (marksF (allF w)))
  simp [v3, hcall, hcan]
end Go.Proofs.YtlfknfknlcgfcaaGreatDoor
/- The marks of a world, by the document. -/
namespace Go.Proofs.YtlfknfknlcgfcaaGreatDoor
open Go Go.Em
set_option maxRecDepth 100000
theorem has_set : ∀ (l : List Clm) (W : List Nat) (L : List Clm), HasSet W L → (∀ c ∈ l, mkOk c) → ∃ W', HasSet W' (L ++ l)
  | [], W, L, h, _ => ⟨W, by simpa using h⟩
  | c :: l, W, L, h, hl => by
    obtain ⟨⟨a1, a2⟩, b1, b2⟩ := hl c List.mem_cons_self
    have h1 := h.add (c := c) (a := c.a.toNat) (b := c.b.toNat) (by omega) (by omega) (by omega) (by omega)
    obtain ⟨W', h2⟩ := has_set l _ _ h1 (fun c hc => hl c (List.mem_cons_of_mem _ hc))
    exact ⟨W', by simpa using h2⟩
theorem marks_few (l : List Clm) (hl : ∀ c ∈ l, mkOk c) : (marksF l).length ≤ 2112 := by
  obtain ⟨W, h⟩ := has_set l _ [] HasSet.nil hl
  rw [List.nil_append] at h
  rw [← set_marks h hl]
  have := listTo_len W W.length
  rw [show setL W = listTo W W.length from rfl]
  have := h.1
  omega
theorem call_z {pg : Pg} {R : Rc} {f : FuncId} {a : D} {bs cs : List D} {o : Out} {h : Heap} (hs : pg.sh f = false) (hz : each (Go.Em.frz h depth) (a :: bs) = some (cs, [])) (x : pureCall R f cs = some o) : call pg R f (a :: bs) h = some (o, h) := by
  have e : call pg R f (a :: bs) h = some (o, if (([] : List Nat).isEmpty || o.d.flat) = true then h else h.cool []) := by
    simp only [call, hs, hz, pureA, pureS, x, orS, Option.map_some, Bool.false_eq_true, if_false]
  rw [e]; simp
theorem IsInts.frz2 {d : D} {l : List Int} (h : IsInts d l) (c : List Clm) (hh : Heap) : each (Go.Em.frz hh depth) [d, clsD c] = some ([intsD l, clsD c], []) := by
  rcases h with rfl | ⟨rfl, rfl⟩
  · exact each_canon hh 23 _ (by simp [intsD, ints_canonL, cls_canon1])
  · have := each_canon hh 23 [intsD [], clsD c] (by simp [intsD, cls_canon1])
    simpa [intsD] using this
def YsI (L l : List Clm) (k : Nat) (s : St) : Prop := ∃ (x : Env 22) (h : Heap) (i : Nat), s = ⟨x.l, h, []⟩ ∧ i + k = l.length ∧ x.v 7 = clsD l ∧ x.v 8 = D.int l.length ∧ x.v 9 = D.int i ∧ x.v 0 = intsD (marksF (L ++ l.take i)) ∧ h.Fr
set_option maxHeartbeats 2000000 in
theorem ys_round (L l : List Clm) (hL : ∀ c ∈ L, mkOk c) (hl : ∀ c ∈ l, mkOk c) (hlen : l.length ≤ 9223372036854775806) : ∀ n, 4010 ≤ n → ∀ k s, YsI L l k s → Res (k119l0.ev ⟨pg, 22, none⟩ (rc pg n) s) (Rnd (YsI L l) (fun x s => x = .exit 0 ∧ YsI L l 0 s) k) := by
  rintro n hn k s ⟨x, h, i, rfl, hik, v6, v7, v8, v3, hf⟩
  simp only [clsD] at v6
  by_cases hi : i < l.length
  · obtain ⟨c, hc⟩ : ∃ c, l[i] = c := ⟨_, rfl⟩
    have htk : L ++ l.take (i + 1) = (L ++ l.take i) ++ [c] := by rw [List.take_add_one, List.getElem?_eq_getElem hi, hc]; simp
    have w1 : IntKind.i64.wrap ((i : Int) + 1) = (i : Int) + 1 := wrap_i64 (by omega) (by omega)
    have hfr : ∀ j, h.raw (h.next + j) = none := fun j => hf _ (by omega)
    have s62 : pg.sh 84 = false := rfl
    obtain ⟨M, hM⟩ : ∃ M, M = marksF (L ++ l.take i) := ⟨_, rfl⟩
    rw [← hM] at v3
    have hMr : Rise M := by rw [hM]; exact marks_rise _
    have hMl : M.length ≤ 2112 := by
      rw [hM]
      refine marks_few _ fun c hc => ?_
      rcases List.mem_append.1 hc with h1 | h1
      · exact hL c h1
      · exact hl c (List.mem_of_mem_take h1)
    have hMl1 := insF_len M c.a
    have r1 := @with_run M hMr (by omega) c.a n (by omega)
    have r2 := @with_run (insF M c.a) (insF_rise hMr _) (by omega) c.b n (by omega)
    have hsn : marksF (L ++ l.take (i + 1)) = insF (insF M c.a) c.b := by rw [htk, marks_snoc, ← hM]
    have hcan1 : D.canonL [intsD M, D.int c.a] = true := by simp [intsD, ints_canonL]
    have hcan2 : D.canonL [intsD (insF M c.a), D.int c.b] = true := by simp [intsD, ints_canonL]
    simp only [intsD] at v3 r1 r2 hcan1 hcan2
    simp [k119l0, v3, v6, v7, v8, hi, hc, clD, clC, D.cells, D.one, hfr, Nat.add_assoc, w1, dcore_f, s62, hcan1, r1, hcan2, r2]
    refine ⟨k - 1, by omega, _, _, i + 1, rfl, by omega, by simp [v6, clsD], by simp [v7], by simp, by simp [hsn, intsD], ?_⟩
    repeat' first | exact hf | apply Heap.Fr.bump | apply Heap.Fr.set
    all_goals (simp <;> omega)
  · simp [k119l0, v7, v8, hi]
    exact ⟨_, _, i, rfl, by omega, by simp [v6, clsD], by simp [v7], by simp [v8], by simp [v3], hf.bump _⟩
theorem rms_run (L l : List Clm) (hL : ∀ c ∈ L, mkOk c) (hl : ∀ c ∈ l, mkOk c) (hlen : l.length ≤ 9223372036854775806) {n : Nat} (hn : l.length + 4020 ≤ n) : pureCall (rc pg n) 119 [intsD (marksF L), clsD l] = some (.ret (intsD (marksF (L ++ l)))) := by
  obtain ⟨m, rfl, e⟩ := body (pg := pg) (f := 119) (args := [intsD (marksF L), clsD l]) (show 0 < n by omega) rfl rfl
  rw [e]
  simp [k119, Env.v_ini, clsD, ev_loop]
  refine Res.endsAfter (lp_rule 4010 (YsI L l) _ (ys_round L l hL hl hlen) l.length m _ (by omega) ⟨_, _, 0, rfl, by omega, by simp [clsD], by simp, by simp, by simp [Env.v_ini], ?_⟩) ?_
  · repeat' first | exact Heap.Fr.empty | apply Heap.Fr.bump | apply Heap.Fr.set
  · rintro x s ⟨rfl, x, h, i, rfl, hi, v6, v7, v8, v3, hf⟩
    have hil : i = l.length := by omega
    subst hil
    rw [List.take_length] at v3
    simp only [intsD] at v3
    have hcan := fun h n => each_canon h n _ (ints_canonL (marksF (L ++ l)))
    simp [v3, hcan, intsD]
end Go.Proofs.YtlfknfknlcgfcaaGreatDoor
/- The marks of a world, by the document: the loops. -/
namespace Go.Proofs.YtlfknfknlcgfcaaGreatDoor
open Go Go.Em
set_option maxRecDepth 100000
def YtI (q : Qst) (L : List Clm) (x0 : Env 31) (k : Nat) (s : St) : Prop := ∃ (x : Env 31) (h : Heap) (i : Nat), s = ⟨x.l, h, []⟩ ∧ i + k = q.ch.length ∧ (∀ j, 12 ≤ j → j < 15 → x.v j = x0.v j) ∧ x.v 3 = intsD (marksF (L ++ (q.ch.take i).flatten)) ∧ x.v 19 = chD q.ch ∧ x.v 20 = D.int q.ch.length ∧ x.v 21 = D.int i ∧ h.Fr
set_option maxHeartbeats 2000000 in
theorem yt_round (q : Qst) (L : List Clm) (x0 : Env 31) (M : Nat) (hlen : q.ch.length ≤ 60) (hM : ∀ l ∈ q.ch, l.length ≤ M) (hM2 : M ≤ 9223372036854775806) (hL : ∀ c ∈ L, mkOk c) (hq : ∀ l ∈ q.ch, ∀ c ∈ l, mkOk c) : ∀ n, M + 4020 ≤ n → ∀ k s, YtI q L x0 k s → Res (k52l0.ev ⟨pg, 31, none⟩ (rc pg n) s) (Rnd (YtI q L x0) (fun x s => x = .exit 2 ∧ YtI q L x0 0 s) k) := by
  rintro n hn k s ⟨x, h, i, rfl, hik, vs, v3, v19, v20, v21, hf⟩
  simp only [chD] at v19
  by_cases hi : i < q.ch.length
  · obtain ⟨l, hl⟩ : ∃ l, q.ch[i] = l := ⟨_, rfl⟩
    have hmem : l ∈ q.ch := by rw [← hl]; exact List.getElem_mem hi
    have hlm := hM l hmem
    have w1 : IntKind.i64.wrap ((i : Int) + 1) = (i : Int) + 1 := wrap_i64 (by omega) (by omega)
    have htk : (q.ch.take (i + 1)).flatten = (q.ch.take i).flatten ++ l := by rw [List.take_add_one, List.getElem?_eq_getElem hi, hl]; simp
    have r1 := @rms_run (L ++ (q.ch.take i).flatten) l (fun c hc => by
      rcases List.mem_append.1 hc with h1 | h1
      · exact hL c h1
      · obtain ⟨l', h2, h3⟩ := List.mem_flatten.1 h1
        exact hq l' (List.mem_of_mem_take h2) c h3) (fun c hc => hq l hmem c hc) (by omega) n (by omega)
    rw [List.append_assoc, ← htk] at r1
    have c1 := fun h => call_of (h := h) (pg := pg) (f := 119) rfl (by simp [intsD, ints_canonL, cls_canon1]) r1
    simp only [intsD, clsD] at c1 v3
    simp [k52l0, v3, v19, v20, v21, hi, hl, clsD, D.cells, c1, w1]
    refine ⟨k - 1, by omega, _, _, i + 1, rfl, by omega, fun j h1 h2 => ?_, by simp [intsD], by simp [v19, chD], by simp [v20], by simp, by repeat' first | exact hf | apply Heap.Fr.bump⟩
    have ne : ∀ t, 15 ≤ t → (t = j) = False := fun t ht => by simp; omega
    have ne6 : (7 = j) = False := by simp; omega
    have ne3 : (3 = j) = False := by simp; omega
    simp [ne, ne6, ne3, vs j h1 h2]
  · simp [k52l0, v20, v21, hi]
    exact ⟨_, _, i, rfl, by omega, fun j h1 h2 => by
      have ne : ∀ t, 15 ≤ t → (t = j) = False := fun t ht => by simp; omega
      simp [ne, vs j h1 h2], by simp [v3], by simp [v19, chD], by simp [v20], by simp [v21], hf.bump _⟩
def YuI (w : Wld) (k : Nat) (s : St) : Prop := ∃ (x : Env 31) (h : Heap) (i : Nat), s = ⟨x.l, h, []⟩ ∧ i + k = w.qs.length ∧ x.v 3 = intsD (marksF (w.cl ++ (w.qs.take i).flatMap fun q => q.ch.flatten)) ∧ x.v 12 = qsD w.qs ∧ x.v 13 = D.int w.qs.length ∧ x.v 14 = D.int i ∧ h.Fr
set_option maxHeartbeats 2000000 in
theorem yu_round (w : Wld) (M : Nat) (hqs : w.qs.length ≤ 6) (hlen : ∀ q ∈ w.qs, q.ch.length ≤ 60) (hM : ∀ q ∈ w.qs, ∀ l ∈ q.ch, l.length ≤ M) (hM2 : M ≤ 9223372036854775806) (h0 : ∀ c ∈ w.cl, mkOk c) (hq : ∀ q ∈ w.qs, ∀ l ∈ q.ch, ∀ c ∈ l, mkOk c) : ∀ n, M + 4100 ≤ n → ∀ k s, YuI w k s → Res (k52l1.ev ⟨pg, 31, none⟩ (rc pg n) s) (Rnd (YuI w) (fun x s => x = .exit 0 ∧ YuI w 0 s) k) := by
  rintro n hn k s ⟨x, h, i, rfl, hik, v3, v12, v13, v14, hf⟩
  simp only [qsD] at v12
  by_cases hi : i < w.qs.length
  · obtain ⟨q, hl⟩ : ∃ q, w.qs[i] = q := ⟨_, rfl⟩
    have hmem : q ∈ w.qs := by rw [← hl]; exact List.getElem_mem hi
    have w1 : IntKind.i64.wrap ((i : Int) + 1) = (i : Int) + 1 := wrap_i64 (by omega) (by omega)
    have htk : ((w.qs.take (i + 1)).flatMap fun q => q.ch.flatten) = ((w.qs.take i).flatMap fun q => q.ch.flatten) ++ q.ch.flatten := by rw [List.take_add_one, List.getElem?_eq_getElem hi, hl]; simp
    have hfr : ∀ j, h.raw (h.next + j) = none := fun j => hf _ (by omega)
    have h60 := hlen q hmem
    simp [k52l1, v12, v13, v14, hi, hl, qD, qC, chD, D.cells, D.one, hfr, Nat.add_assoc, ev_loop]
    refine Res.yb (lp_rule (M + 4020) (YtI q (w.cl ++ (w.qs.take i).flatMap fun q => q.ch.flatten) _) _ (yt_round q _ _ M h60 (hM q hmem) hM2 (fun c hc => ?_) (hq q hmem)) q.ch.length n _ (by omega) ⟨_, _, 0, rfl, by omega, fun j h1 h2 => rfl, by simp [v3], by simp [chD], by simp, by simp, ?_⟩) ?_
    · rcases List.mem_append.1 hc with h1 | h1
      · exact h0 c h1
      · obtain ⟨q', h2, h3⟩ := List.mem_flatMap.1 h1
        obtain ⟨l', h4, h5⟩ := List.mem_flatten.1 h3
        exact hq q' (List.mem_of_mem_take h2) l' h4 c h5
    · repeat' first | exact hf | apply Heap.Fr.bump | apply Heap.Fr.set
      all_goals (simp <;> omega)
    · rintro y s ⟨rfl, y, h1, i1, rfl, hi1, vs, y3, _, _, _, hf1⟩
      have i1l : i1 = q.ch.length := by omega
      subst i1l
      rw [List.take_length, List.append_assoc, ← htk] at y3
      have y12 := vs 12 (by omega) (by omega)
      have y13 := vs 13 (by omega) (by omega)
      have y14 := vs 14 (by omega) (by omega)
      simp [v12, v13, v14] at y12 y13 y14
      simp [y14, w1]
      exact ⟨k - 1, by omega, _, _, i + 1, rfl, by omega, by simp [y3], by simp [y12, qsD], by simp [y13], by simp, by repeat' first | exact hf1 | apply Heap.Fr.bump⟩
  · simp [k52l1, v13, v14, hi]
    exact ⟨_, _, i, rfl, by omega, by simp [v3], by simp [v12, qsD], by simp [v13], by simp [v14], hf.bump _⟩
set_option maxHeartbeats 2000000 in
theorem rms_world (w : Wld) (M : Nat) (hqs : w.qs.length ≤ 6) (hlen : ∀ q ∈ w.qs, q.ch.length ≤ 60) (hM0 : w.cl.length ≤ M) (hM : ∀ q ∈ w.qs, ∀ l ∈ q.ch, l.length ≤ M) (hM2 : M ≤ 9223372036854775806) (h0 : ∀ c ∈ w.cl, mkOk c) (hq : ∀ q ∈ w.qs, ∀ l ∈ q.ch, ∀ c ∈ l, mkOk c) {n : Nat} (hn : M + 4200 ≤ n) : pureCall (rc pg n) 52 [wD w] = some (.ret (intsD (marksF (allF w)))) := by
  obtain ⟨m, rfl, e⟩ := body (pg := pg) (f := 52) (args := [wD w]) (show 0 < n by omega) rfl rfl
  rw [e]
  have hz := fun h => IsInts.frz2 (.inr ⟨rfl, rfl⟩ : IsInts (.val (.slice none 0 0)) []) w.cl h
  have r1 := @rms_run [] w.cl (fun c hc => by cases hc) h0 (by omega) m (by omega)
  have em : marksF [] = [] := rfl
  rw [em, List.nil_append] at r1
  have c1 := fun h => call_z (pg := pg) (h := h) (f := 119) rfl (hz h) r1
  simp only [intsD, clsD] at c1
  simp [k52, Env.v_ini, wD, clsD, qsD, D.cells, D.one, c1, ev_loop]
  refine Res.endsAfter (lp_rule (M + 4100) (YuI w) _ (yu_round w M hqs hlen hM hM2 h0 hq) w.qs.length m _ (by omega) ⟨_, _, 0, rfl, by omega, by simp [intsD], by simp [qsD], by simp, by simp, ?_⟩) ?_
  · repeat' first | exact Heap.Fr.empty | apply Heap.Fr.bump | apply Heap.Fr.set
    all_goals simp
  rintro y s ⟨rfl, x, h, i, rfl, hi, v3, _, _, _, hf2⟩
  have hil : i = w.qs.length := by omega
  subst hil
  rw [List.take_length] at v3
  have v3' : x.v 3 = intsD (marksF (allF w)) := v3
  simp only [intsD] at v3'
  have hcan := fun h n => each_canon h n _ (ints_canonL (marksF (allF w)))
  simp [v3', hcan, intsD]
end Go.Proofs.YtlfknfknlcgfcaaGreatDoor
