/- Bounds, by the document. -/
import Derived.Test.YtfemldhlanoakaaDoorPl
import Derived.Test.YtfemldhlanoakaaDoorWo1
import Derived.Test.YtfemldhlanoakaaDoorSh1
import Derived.Test.YtfemldhlanoakaaDoorPl
import Derived.Test.YtfemldhlanoakaaDoorMo5
import Derived.Test.YtfemldhlanoakaaDoorCho1
namespace Go.Proofs.YtfemldhlanoakaaDoor
open Go Go.Em Go.Em.Net
set_option maxRecDepth 100000
theorem has_iff (l : List Int) (v : Int) : hasI l v = decide (v ∈ l) := by
  rw [Bool.eq_iff_iff, hasI_mem, decide_eq_true_iff]
theorem pos_iff (M : List Int) (v : Int) : posF M v = -1 ↔ v ∉ M := by
  unfold posF
  by_cases h : v ∈ M
  · rw [if_pos h]; simp [h]
  · rw [if_neg h]; simp [h]
def nilW : D := .agg [.sl false [], .sl false []]
def askF (l : List Clm) (a b : Int) : D := .tup [if errF l a b = 0 then nD (marksF l) (encM (cloF l)) else nilW, D.int (errF l a b)]
set_option maxHeartbeats 8000000 in
theorem asked_run (l : List Clm) (a b : Int) {f : Nat} (hf : 4000 ≤ f) : pureCall (rc pg f) 55 [clsD l, D.int a, D.int b] = some (.ret (askF l a b)) := by
  obtain ⟨m, rfl, e⟩ := body (pg := pg) (f := 55) (args := [clsD l, D.int a, D.int b]) (show 0 < f by omega) rfl rfl
  rw [e]
  have cC := fun h => call_of (h := h) (pg := pg) (f := 26) rfl (cls_canon l) (@rchk_run l m (by omega))
  simp only [clsD] at cC
  by_cases h0 : chkF l = 0
  · rw [h0] at cC
    obtain ⟨hl1, hok, hl3⟩ := chk_ok h0
    have cM := fun h => call_of (h := h) (pg := pg) (f := 54) rfl (cls_canon l) (rmarks_run l (by omega) (n := m) (by omega))
    have hc1 := ints_canonL (marksF l)
    have cA := fun h => call_of (h := h) (pg := pg) (f := 94) (args := [intsD (marksF l), D.int a]) rfl (by simp [intsD, hc1]) (has_run (marksF l) (by omega) a (n := m) (by omega))
    have cB := fun h => call_of (h := h) (pg := pg) (f := 94) (args := [intsD (marksF l), D.int b]) rfl (by simp [intsD, hc1]) (has_run (marksF l) (by omega) b (n := m) (by omega))
    rw [has_iff] at cA cB
    simp only [clsD, intsD] at cM cA cB
    by_cases ha : a ∈ marksF l
    · by_cases hb' : b ∈ marksF l
      · have hl0 : l ≠ [] := fun e => by subst e; cases ha
        obtain ⟨B, eC, hB⟩ := rclo_run l h0 hl0 (f := m) (by omega)
        have cL := fun h => call_of (h := h) (pg := pg) (f := 53) rfl (cls_canon l) eC
        simp only [clsD, nD, intsD, rowsD] at cL
        have np : ¬ (posF (marksF l) a = -1 ∨ posF (marksF l) b = -1) := by rw [pos_iff, pos_iff]; simp [ha, hb']
        cases hb : badF l with
        | true =>
          have e0 : askF l a b = .tup [nilW, D.int 25] := by rw [show askF l a b = .tup [if errF l a b = 0 then nD (marksF l) (encM (cloF l)) else nilW, D.int (errF l a b)] from rfl, show errF l a b = 25 from (by unfold errF; rw [if_neg (by omega), if_neg np, if_pos hb])]; rfl
          rw [hb] at cL
          simp [-beq_iff_eq, k55, Env.v_ini, clsD, D.cells, D.one, cC, cM, cA, cB, ha, hb', cL, e0, nilW]
        | false =>
          have hE : errF l a b = 0 := by unfold errF; rw [if_neg (by omega), if_neg np, if_neg (by rw [hb]; simp)]
          have e0 : askF l a b = .tup [nD (marksF l) (encM (cloF l)), D.int 0] := by unfold askF; rw [hE]; rfl
          have hd := hB hb
          subst hd
          rw [hb] at cL
          have hcX := rows_canonL (marksF l).length (encM (cloF l))
          have hx := fun H n => each_canon H n _ hcX
          simp [-beq_iff_eq, k55, Env.v_ini, clsD, D.cells, D.one, cC, cM, cA, cB, ha, hb', cL, e0, nD, intsD, rowsD, hx]
      · have np : posF (marksF l) a = -1 ∨ posF (marksF l) b = -1 := .inr ((pos_iff _ _).2 hb')
        have e0 : askF l a b = .tup [nilW, D.int 3] := by rw [show askF l a b = .tup [if errF l a b = 0 then nD (marksF l) (encM (cloF l)) else nilW, D.int (errF l a b)] from rfl, show errF l a b = 3 from (by unfold errF; rw [if_neg (by omega), if_pos np])]; rfl
        simp [-beq_iff_eq, k55, Env.v_ini, clsD, D.cells, D.one, cC, cM, cA, cB, ha, hb', e0, nilW]
    · have np : posF (marksF l) a = -1 ∨ posF (marksF l) b = -1 := .inl ((pos_iff _ _).2 ha)
      have e0 : askF l a b = .tup [nilW, D.int 3] := by rw [show askF l a b = .tup [if errF l a b = 0 then nD (marksF l) (encM (cloF l)) else nilW, D.int (errF l a b)] from rfl, show errF l a b = 3 from (by unfold errF; rw [if_neg (by omega), if_pos np])]; rfl
      simp [-beq_iff_eq, k55, Env.v_ini, clsD, D.cells, D.one, cC, cM, cA, ha, e0, nilW]
  · have h0' : (chkF l != 0) = true := by simpa using h0
    have e0 : askF l a b = .tup [nilW, D.int (chkF l)] := by rw [show askF l a b = .tup [if errF l a b = 0 then nD (marksF l) (encM (cloF l)) else nilW, D.int (errF l a b)] from rfl, show errF l a b = chkF l from (by unfold errF; rw [if_pos h0])]; rw [if_neg h0]
    simp [-bne_iff_ne, k55, Env.v_ini, clsD, D.cells, D.one, cC, h0', e0, nilW]
theorem index_pl {l : List Clm} (h0 : chkF l = 0) {v : Int} (hv : v ∈ marksF l) {n : Nat} (hn : 100 ≤ n) : pureCall (rc pg n) 56 [intsD (marksF l), D.int v] = some (.ret (D.int (placeF (marksF l) v))) := by
  have hl3 := (chk_ok h0).2.2
  have := index_run (marksF l) (by omega) v (n := n) (by omega)
  rw [ix_place hv, Nat.zero_add] at this
  exact this
theorem err_marks {l : List Clm} {a b : Int} (h : errF l a b = 0) : a ∈ marksF l ∧ b ∈ marksF l := by
  unfold errF at h
  split at h
  · rename_i h1; exact absurd h h1
  · split at h
    · cases h
    · rename_i h2
      rw [pos_iff, pos_iff] at h2
      exact ⟨Decidable.byContradiction fun e => h2 (.inl e), Decidable.byContradiction fun e => h2 (.inr e)⟩
set_option maxHeartbeats 8000000 in
theorem rbds_run (l : List Clm) (a b : Int) {f : Nat} (hf : 4001 ≤ f) : pureCall (rc pg f) 16 [clsD l, D.int a, D.int b] = some (.ret (bdsF l a b)) := by
  obtain ⟨m, rfl, e⟩ := body (pg := pg) (f := 16) (args := [clsD l, D.int a, D.int b]) (show 0 < f by omega) rfl rfl
  rw [e]
  have cA := fun h => call_of (h := h) (pg := pg) (f := 55) (args := [clsD l, D.int a, D.int b]) rfl (by simp [clsD, canonL_map clD cl_canon l]) (asked_run l a b (f := m) (by omega))
  simp only [clsD, askF] at cA
  by_cases hE : errF l a b = 0
  · obtain ⟨h0, hb, pa, pb, h1, h2, h3, h4, _⟩ := bet_ok hE
    obtain ⟨ma, mb⟩ := err_marks hE
    rw [hE] at cA
    have ed : bdsF l a b = .tup [D.int (-(encM (cloF l) pb pa)), D.int (encM (cloF l) pa pb), D.int 0] := by unfold bdsF; rw [if_pos hE, h3, h4]
    have hc1 := ints_canonL (marksF l)
    have ia := index_pl h0 ma (n := m) (by omega)
    have ib := index_pl h0 mb (n := m) (by omega)
    rw [← h3] at ia
    rw [← h4] at ib
    have cI := fun h => call_of (h := h) (pg := pg) (f := 56) rfl (by simp [intsD, hc1]) ia
    have cJ := fun h => call_of (h := h) (pg := pg) (f := 56) rfl (by simp [intsD, hc1]) ib
    have hbd := enc_bd (clo_bt h0 hb)
    have w1 : IntKind.i64.wrap (-(encM (cloF l) pb pa)) = -(encM (cloF l) pb pa) := by have := hbd pb pa; exact wrap_i64 (by omega) (by omega)
    have yl := fun i => yCs_len (marksF l).length (encM (cloF l) i)
    have g1 : ∀ i, ∀ h' : pa < (yCs (marksF l).length (encM (cloF l) i)).length, (yCs (marksF l).length (encM (cloF l) i))[pa]'h' = D.int (encM (cloF l) i pa) := fun i h' => yCs_at h1 h'
    have g2 : ∀ i, ∀ h' : pb < (yCs (marksF l).length (encM (cloF l) i)).length, (yCs (marksF l).length (encM (cloF l) i))[pb]'h' = D.int (encM (cloF l) i pb) := fun i h' => yCs_at h2 h'
    simp only [if_true, nD, intsD, rowsD] at cA cI cJ
    simp [k16, Env.v_ini, clsD, D.cells, D.one, cA, cI, cJ, ed, h1, h2, yl, g1, g2, w1]
  · have ed : bdsF l a b = .tup [D.int 0, D.int 0, D.int (errF l a b)] := by unfold bdsF; rw [if_neg hE]
    have q : (errF l a b != 0) = true := by simpa using hE
    simp only [if_neg hE, nilW] at cA
    simp [-bne_iff_ne, k16, Env.v_ini, clsD, D.cells, D.one, cA, ed, q]
end Go.Proofs.YtfemldhlanoakaaDoor
/- The document's steps of claims, in order. -/
namespace Go.Proofs.YtfemldhlanoakaaDoor
open Go Go.Em Go.Em.Net
set_option maxRecDepth 100000
def st2 (q : Nat) : List Stp := [⟨q, false⟩, ⟨q, true⟩]
def stsN (n : Nat) : List Stp := (List.range n).flatMap st2
theorem stsN_succ (n : Nat) : stsN (n + 1) = stsN n ++ st2 n := by simp [stsN, List.range_succ]
theorem movs_st' (M : List Int) : ∀ (l : List Clm) (i : Nat), (movsF M i l).map stO = (List.range' i l.length).flatMap st2
  | [], _ => rfl
  | c :: l, i => by
    rw [movsF, List.map_append, movs_st' M l (i + 1)]
    simp [movF, stO, List.range'_succ, st2]
theorem movs_st (M : List Int) (l : List Clm) : (movsF M 0 l).map stO = stsN l.length := by
  rw [movs_st', stsN, List.range_eq_range']
theorem stsN_len : ∀ n, (stsN n).length = 2 * n
  | 0 => rfl
  | n + 1 => by rw [stsN_succ, List.length_append, stsN_len n]; simp [st2]; omega
def TI (n : Nat) (k : Nat) (s : St) : Prop := ∃ (x : Env 19) (h : Heap) (i : Nat), s = ⟨x.l, h, []⟩ ∧ i + k = n ∧ x.v 6 = D.int n ∧ x.v 7 = D.int i ∧ GZ 61 2 (2 * i) ((stsN i).flatMap stC) h (x.v 3) ∧ h.Fr
theorem stc_len (l : List Stp) : (l.flatMap stC).length = l.length * 2 := by
  induction l with
  | nil => rfl
  | cons a l ih => rw [List.flatMap_cons, List.length_append, ih]; simp [stC]; omega
theorem stc_canon : ∀ l : List Stp, D.canonL (l.flatMap stC) = true
  | [] => rfl
  | a :: l => by rw [List.flatMap_cons]; simp [stC, stc_canon l]
set_option maxHeartbeats 8000000 in
theorem steps_round (n : Nat) (hn : n ≤ 400) : ∀ f, 0 ≤ f → ∀ k s, TI n k s → Res (k57l0.ev ⟨pg, 19, none⟩ (rc pg f) s) (Rnd (TI n) (fun x s => x = .exit 0 ∧ TI n 0 s) k) := by
  rintro f hf k s ⟨x, h, i, rfl, hik, v6, v7, gz, hfr'⟩
  by_cases hi : i < n
  · have w1 : IntKind.i64.wrap ((i : Int) + 1) = (i : Int) + 1 := wrap_i64 (by omega) (by omega)
    have hfr : ∀ j, h.raw (h.next + j) = none := fun j => hfr' _ (by omega)
    have hs : (stsN (i + 1)).flatMap stC = (stsN i).flatMap stC ++ [D.int i, D.bool false, D.int i, D.bool true] := by rw [stsN_succ]; simp [st2, stC]
    rcases gz with ⟨e0, g3⟩ | ⟨e0, kk, g3, gg, nk⟩
    · obtain rfl : i = 0 := by omega
      have w0 : IntKind.i64.wrap 1 = 1 := by decide
      simp [k57l0, v6, v7, g3, hi, w0, D.cells, D.one, hfr, Nat.add_assoc, zerosD, apK_some, List.range_succ, room, maxLen]
      refine ⟨k - 1, by omega, _, _, 1, rfl, by omega, by simp [v6], by simp, .inr ⟨by omega, _, by simp; rfl, ?_, ?_⟩, ?_⟩
      · simp [stsN, st2, stC]
      · simp
      · repeat' first | exact hfr' | apply Heap.Fr.bump | apply Heap.Fr.set
        all_goals first | omega | (simp <;> omega)
    · have hl : ((stsN i).flatMap stC).length = 2 * i * 2 := by rw [stc_len, stsN_len]
      have happ := fun t hh news => appS_none (t := t) (et := 61) (sz := 2) (bytes := 16) (h := hh) (m := 2) (news := news) (k := kk) (n := 2 * i) (cs := (stsN i).flatMap stC) hl (by omega) (by unfold room; omega) (by unfold maxLen; omega)
      have nk1 : ∀ j, (kk = h.next + j) = False := fun j => by simp; omega
      have nk2 : ∀ j, (h.next + j = kk) = False := fun j => by simp; omega
      simp [k57l0, v6, v7, g3, hi, w1, D.cells, D.one, hfr, Nat.add_assoc, zerosD, apK_some, List.range_succ, gg, happ, nk1, nk2]
      refine ⟨k - 1, by omega, _, _, i + 1, rfl, by omega, by simp [v6], by simp, .inr ⟨by omega, h.next + 54, by simp; omega, ?_, ?_⟩, ?_⟩
      · rw [hs]; simp [nk1, nk2]
      · simp
      · repeat' first | exact hfr' | apply Heap.Fr.bump | apply Heap.Fr.set
        all_goals first | omega | (simp <;> omega)
  · simp [k57l0, v6, v7, hi]
    refine ⟨_, _, i, rfl, by omega, by simp [v6], by simp [v7], ?_, hfr'.bump _⟩
    simpa using gz.keep (h' := h.bump 19) (by simp) (fun q _ => by simp)
theorem steps_run (l : List Clm) (hl : l.length ≤ 400) {f : Nat} (hf : 500 ≤ f) : pureCall (rc pg f) 57 [clsD l] = some (.ret (stsD (stsN l.length))) := by
  obtain ⟨m, rfl, e⟩ := body (pg := pg) (f := 57) (args := [clsD l]) (show 0 < f by omega) rfl rfl
  rw [e]
  simp [k57, Env.v_ini, clsD, D.cells, D.one, ev_loop]
  refine Res.endsAfter (lp_rule 0 (TI l.length) _ (steps_round l.length hl) l.length m _ (by omega) ⟨_, _, 0, rfl, by omega, by simp, by simp, .inl ⟨rfl, by simp⟩, ?_⟩) ?_
  · repeat' first | exact Heap.Fr.empty | apply Heap.Fr.bump | apply Heap.Fr.set
    all_goals first | omega | (simp <;> omega)
  · rintro xo so ⟨rfl, x', h', i, rfl, hi, v6, v7, gz, hfr'⟩
    have hin : i = l.length := by omega
    subst hin
    have hch := chunk_flatMap (sz := 2) stC (by omega) (fun s => rfl) (stsN l.length) (2 * l.length) (stsN_len _).symm
    have hl2 : ((stsN l.length).flatMap stC).length = 2 * l.length * 2 := by rw [stc_len, stsN_len]
    rcases gz with ⟨e0, g3⟩ | ⟨e0, kk, g3, gg, nk⟩
    · obtain e1 : l.length = 0 := by omega
      simp [g3, e1, stsD, stsN]
    · have ht : List.take (2 * l.length * 2) ((stsN l.length).flatMap stC) = (stsN l.length).flatMap stC := List.take_of_length_le (by omega)
      have hx := fun H n => each_canon H n _ (stc_canon (stsN l.length))
      simp [g3, gg, hl2, ht, hx, hch, stsD]
      exact fun _ _ => rfl
end Go.Proofs.YtfemldhlanoakaaDoor
/- The document's steps that lead on with the least bound. -/
namespace Go.Proofs.YtfemldhlanoakaaDoor
open Go Go.Em Go.Em.Net
set_option maxRecDepth 100000
/-- Does a move lead to b with the least bound, as the document asks it? -/
def tdI (A : Nat → Nat → Int) (b : Nat) (m : Mv) : Bool := (A m.2.1 b != 1000000000) && (A m.1 b == m.2.2 + A m.2.1 b)
def tfI (A : Nat → Nat → Int) (b : Nat) (m : Mo) : Int := if tdI A b (mvO m) = true then m.fr else -1
def ttI (A : Nat → Nat → Int) (b : Nat) (m : Mo) : Int := if tdI A b (mvO m) = true then m.to_ else -1
theorem index_place {l : List Clm} (h0 : chkF l = 0) {v : Int} (hv : v ∈ marksF l) {n : Nat} (hn : 100 ≤ n) : pureCall (rc pg n) 56 [intsD (marksF l), D.int v] = some (.ret (D.int (placeF (marksF l) v))) := by
  have hl3 := (chk_ok h0).2.2
  have := index_run (marksF l) (by omega) v (n := n) (by omega)
  rw [ix_place hv, Nat.zero_add] at this
  exact this
theorem mov_bd {l : List Clm} (h0 : chkF l = 0) {m : Mo} (hm : m ∈ moVs l) : m.fr < (marksF l).length ∧ m.to_ < (marksF l).length ∧ -100000 ≤ m.mo ∧ m.mo ≤ 100000 := by
  have g := good_movs h0
  have := g.hin m hm
  have := g.bd m hm
  omega
set_option maxHeartbeats 8000000 in
theorem tight_run {l : List Clm} (h0 : chkF l = 0) (A : Nat → Nat → Int) (hA : ∀ a b, -1000000000000 ≤ A a b ∧ A a b ≤ 1000000000000) {b : Nat} (hb : b < (marksF l).length) {m : Mo} (hm : m ∈ moVs l) {n : Nat} (hn : 101 ≤ n) :
    pureCall (rc pg n) 58 [nD (marksF l) A, clsD l, stD (stO m), D.int b] = some (.ret (.tup [D.int (tfI A b m), D.int (ttI A b m)])) := by
  obtain ⟨f, rfl, e⟩ := body (pg := pg) (f := 58) (args := [nD (marksF l) A, clsD l, stD (stO m), D.int b]) (show 0 < n by omega) rfl rfl
  rw [e]
  obtain ⟨b1, b2, b3, b4⟩ := mov_bd h0 hm
  obtain ⟨j, c, hj, e1, e2, e3, e4⟩ := movs_claim hm
  obtain ⟨hl1, hok, hl3⟩ := chk_ok h0
  have hc := List.mem_of_getElem? hj
  have hjl : j < l.length := (List.getElem?_eq_some_iff.1 hj).1
  have hjc : l[j] = c := Option.some.inj (by rw [← List.getElem?_eq_getElem hjl, hj])
  obtain ⟨ma, mb⟩ := end_mem hc m.bk
  have s95 : pg.sh 95 = false := rfl
  have r95 := ends_run c (hok c hc) m.bk (n := f) (by omega)
  rw [← e4] at r95
  have ia := index_place h0 ma (n := f) (by omega)
  have ib := index_place h0 mb (n := f) (by omega)
  rw [← e2] at ia
  rw [← e3] at ib
  have hc1 := ints_canonL (marksF l)
  have c56a := fun h => call_of (h := h) (pg := pg) (f := 56) rfl (by simp [intsD, hc1]) ia
  have c56b := fun h => call_of (h := h) (pg := pg) (f := 56) rfl (by simp [intsD, hc1]) ib
  simp only [intsD] at c56a c56b
  simp only [clD, clC] at r95
  have w1 : IntKind.i64.wrap (m.mo + A m.to_ b) = m.mo + A m.to_ b := by have := hA m.to_ b; exact wrap_i64 (by omega) (by omega)
  have yl := fun i => yCs_len (marksF l).length (A i)
  have g2 : ∀ i, ∀ h' : b < (yCs (marksF l).length (A i)).length, (yCs (marksF l).length (A i))[b]'h' = D.int (A i b) := fun i h' => yCs_at hb h'
  rw [Nat.zero_add] at e1
  by_cases q1 : A m.to_ b = 1000000000
  · have q2 : tdI A b (mvO m) = false := by unfold tdI mvO; simp [q1]
    simp [k58, Env.v_ini, nD, intsD, rowsD, clsD, stD, stC, stO, e1, hjl, hjc, clD, clC, D.cells, D.one, dcore_f, s95, r95, c56a, c56b, b1, b2, yl, g2, hb, q1, tfI, ttI, q2]
  · have q1' : (A m.to_ b == 1000000000) = false := by simpa using q1
    by_cases q3 : A m.fr b = m.mo + A m.to_ b
    · have q2 : tdI A b (mvO m) = true := by unfold tdI mvO; simp [q1, q3]
      have q3' : (A m.fr b != m.mo + A m.to_ b) = false := by simp [q3]
      simp [-bne_iff_ne, -beq_iff_eq, -bne_eq_false_iff_eq, -beq_eq_false_iff_ne, k58, Env.v_ini, nD, intsD, rowsD, clsD, stD, stC, stO, e1, hjl, hjc, clD, clC, D.cells, D.one, dcore_f, s95, r95, c56a, c56b, b1, b2, yl, g2, hb, q1', q3', w1, tfI, ttI, q2]
    · have q2 : tdI A b (mvO m) = false := by unfold tdI mvO; simp [q3]
      have q3' : (A m.fr b != m.mo + A m.to_ b) = true := by simp [q3]
      simp [-bne_iff_ne, -beq_iff_eq, -bne_eq_false_iff_eq, -beq_eq_false_iff_ne, k58, Env.v_ini, nD, intsD, rowsD, clsD, stD, stC, stO, e1, hjl, hjc, clD, clC, D.cells, D.one, dcore_f, s95, r95, c56a, c56b, b1, b2, yl, g2, hb, q1', q3', w1, tfI, ttI, q2]
end Go.Proofs.YtfemldhlanoakaaDoor
/- The document's search in rounds for how many steps are left. -/
namespace Go.Proofs.YtfemldhlanoakaaDoor
open Go Go.Em Go.Em.Net
set_option maxRecDepth 100000
/-- What the loops leave alone. -/
structure KM (l : List Clm) (A : Nat → Nat → Int) (fb b9 pb : Nat) (a b z : Int) (x : Env 158) (h : Heap) : Prop where
  v0 : x.v 0 = clsD l
  v1 : x.v 1 = D.int a
  v2 : x.v 2 = D.int b
  v9 : x.v 9 = .ptr b9 0
  v11 : x.v 11 = D.int pb
  v12 : x.v 12 = D.int z
  v13 : x.v 13 = .slr fb 0 (marksF l).length 1 (some (marksF l).length)
  g9 : h.get b9 = some (.cells 40 [intsD (marksF l), rowsD (marksF l).length A])
  n9 : b9 < h.next
  nf : fb < h.next
  fr : h.Fr
def FmI (n i : Nat) : Nat → Int := fun v => if v < i then -1 else 0
def M0 (l : List Clm) (A : Nat → Nat → Int) (fb b9 pb : Nat) (a b z : Int) (k : Nat) (s : St) : Prop := ∃ (x : Env 158) (h : Heap) (i : Nat), s = ⟨x.l, h, []⟩ ∧ i + k = (marksF l).length ∧ KM l A fb b9 pb a b z x h ∧ x.v 58 = D.int (marksF l).length ∧ x.v 59 = D.int i ∧ h.get fb = some (.cells 3 (yCs (marksF l).length (FmI (marksF l).length i)))
set_option maxHeartbeats 8000000 in
theorem m0_round (l : List Clm) (hl : (marksF l).length ≤ 64) (A : Nat → Nat → Int) (fb b9 pb : Nat) (a b z : Int) : ∀ f, 0 ≤ f → ∀ k s, M0 l A fb b9 pb a b z k s → Res (k17l0.ev ⟨pg, 158, none⟩ (rc pg f) s) (Rnd (M0 l A fb b9 pb a b z) (fun x s => x = .exit 0 ∧ M0 l A fb b9 pb a b z 0 s) k) := by
  rintro f hf k s ⟨x, h, i, rfl, hik, K, v58, v59, gf⟩
  have v13 := K.v13
  have n9 := K.n9
  have nf := K.nf
  have hfr' := K.fr
  have n9f : (b9 = fb) = False := by
    simp; intro e; have := K.g9; rw [e, gf] at this; cases this
  by_cases hi : i < (marksF l).length
  · have w1 : IntKind.i64.wrap ((i : Int) + 1) = (i : Int) + 1 := wrap_i64 (by omega) (by omega)
    have hyl := yCs_len (marksF l).length (FmI (marksF l).length i)
    have i1 : i + 1 ≤ (marksF l).length := hi
    have hst : (yCs (marksF l).length (FmI (marksF l).length i)).take i ++ D.int (-1) :: (yCs (marksF l).length (FmI (marksF l).length i)).drop (i + 1) = yCs (marksF l).length (FmI (marksF l).length (i + 1)) := by
      have : FmI (marksF l).length (i + 1) = fun q => if q = i then -1 else FmI (marksF l).length i q := by
        funext q; unfold FmI
        by_cases hq : q = i
        · subst hq; simp
        · by_cases hb : q < i
          · simp [hb, hq, show q < i + 1 by omega]
          · simp [hb, hq, show ¬ q < i + 1 by omega]
      rw [this, ← yCs_set, List.set_eq_take_append_cons_drop, if_pos (by rw [hyl]; exact hi)]
    simp [k17l0, v13, v58, v59, hi, w1, gf, hyl, i1, hst, D.cells, D.one]
    refine ⟨k - 1, by omega, _, _, i + 1, rfl, by omega, ⟨by simp [K.v0], by simp [K.v1], by simp [K.v2], by simp [K.v9], by simp [K.v11], by simp [K.v12], by simp [K.v13], by simp [n9f, K.g9], by simp; omega, by simp; omega, ?_⟩, by simp [v58], by simp, by simp⟩
    repeat' first | exact hfr' | apply Heap.Fr.bump | apply Heap.Fr.set
    all_goals first | omega | (simp <;> omega)
  · simp [k17l0, v58, v59, hi]
    exact ⟨_, _, i, rfl, by omega, ⟨by simp [K.v0], by simp [K.v1], by simp [K.v2], by simp [K.v9], by simp [K.v11], by simp [K.v12], by simp [K.v13], by simp [K.g9], by simp; omega, by simp; omega, hfr'.bump _⟩, by simp [v58], by simp [v59], by simp [gf]⟩
/-- The search after some moves of a round. -/
def FD (l : List Clm) (A : Nat → Nat → Int) (pb rd : Nat) (f0 : Nat → Int) (i : Nat) : Nat → Int := (((moVs l).take i).map mvO).foldl (bfs1 (tdI A pb) (marksF l).length rd) f0
theorem fd_succ (l : List Clm) (A : Nat → Nat → Int) (pb rd : Nat) (f0 : Nat → Int) {i : Nat} {m : Mo} (hm : (moVs l)[i]? = some m) : FD l A pb rd f0 (i + 1) = bfs1 (tdI A pb) (marksF l).length rd (FD l A pb rd f0 i) (mvO m) := by
  unfold FD
  have hi := (List.getElem?_eq_some_iff.1 hm).1
  rw [List.take_add_one, hm]
  simp [List.foldl_append]
/-- What the search may hold. -/
def Fb (n : Nat) (f : Nat → Int) : Prop := f n = -1 ∧ ∀ v, v < n → -1 ≤ f v ∧ f v ≤ 1000
theorem Fb.step {n : Nat} {f : Nat → Int} (h : Fb n f) {ld : Mv → Bool} {rd : Nat} (hr : rd ≤ 64) {m : Mv} (hm : m.1 < n) : Fb n (bfs1 ld n rd f m) := by
  unfold bfs1
  rw [if_neg (by rw [h.1]; simp)]
  split
  · refine ⟨?_, fun v hv => ?_⟩
    · show (if n = m.1 then (rd : Int) + 1 else f n) = -1
      rw [if_neg (by omega)]; exact h.1
    · show -1 ≤ (if v = m.1 then (rd : Int) + 1 else f v) ∧ (if v = m.1 then (rd : Int) + 1 else f v) ≤ 1000
      split
      · omega
      · exact h.2 v hv
  · exact h
def M1 (l : List Clm) (A : Nat → Nat → Int) (fb b9 pb : Nat) (a b z : Int) (rd : Nat) (f0 : Nat → Int) (k : Nat) (s : St) : Prop := ∃ (x : Env 158) (h : Heap) (i : Nat), s = ⟨x.l, h, []⟩ ∧ i + k = (moVs l).length ∧ KM l A fb b9 pb a b z x h ∧ x.v 15 = D.int rd ∧ x.v 76 = stsD ((moVs l).map stO) ∧ x.v 77 = D.int (moVs l).length ∧ x.v 78 = D.int i ∧
  h.get fb = some (.cells 3 (yCs (marksF l).length (FD l A pb rd f0 i))) ∧ Fb (marksF l).length (FD l A pb rd f0 i)
set_option maxHeartbeats 8000000 in
theorem m1_round {l : List Clm} (h0 : chkF l = 0) (A : Nat → Nat → Int) (hA : ∀ a b, -1000000000000 ≤ A a b ∧ A a b ≤ 1000000000000) (fb b9 pb : Nat) (hpb : pb < (marksF l).length) (a b z : Int) (rd : Nat) (hrd : rd ≤ 64) (f0 : Nat → Int) : ∀ f, 101 ≤ f → ∀ k s, M1 l A fb b9 pb a b z rd f0 k s → Res (k17l1.ev ⟨pg, 158, none⟩ (rc pg f) s) (Rnd (M1 l A fb b9 pb a b z rd f0) (fun x s => x = .exit 4 ∧ M1 l A fb b9 pb a b z rd f0 0 s) k) := by
  rintro f hf k s ⟨x, h, i, rfl, hik, K, v15, v76, v77, v78, gf, hb⟩
  have v0 := K.v0
  have v9 := K.v9
  have v11 := K.v11
  have v13 := K.v13
  have g9 := K.g9
  have n9 := K.n9
  have nf := K.nf
  have hfr' := K.fr
  have hL : (moVs l).length ≤ 800 := by unfold moVs; rw [movs_len]; have := (chk_ok h0).1; omega
  have n9f : (b9 = fb) = False := by
    simp; intro e; have := K.g9; rw [e, gf] at this; cases this
  have n9f' : (fb = b9) = False := by
    simp; intro e; have := K.g9; rw [← e, gf] at this; cases this
  by_cases hi : i < (moVs l).length
  · have w1 : IntKind.i64.wrap ((i : Int) + 1) = (i : Int) + 1 := wrap_i64 (by omega) (by omega)
    have w2 : IntKind.i64.wrap ((rd : Int) + 1) = (rd : Int) + 1 := wrap_i64 (by omega) (by omega)
    have hfr : ∀ j, h.raw (h.next + j) = none := fun j => hfr' _ (by omega)
    obtain ⟨m, hmi⟩ : ∃ m, (moVs l)[i] = m := ⟨_, rfl⟩
    have hmo : (moVs l)[i]? = some m := by rw [List.getElem?_eq_getElem hi, hmi]
    have hm : m ∈ moVs l := List.mem_of_getElem? hmo
    obtain ⟨b1, b2, b3, b4⟩ := mov_bd h0 hm
    have hc1 := ints_canonL (marksF l)
    have hc2 := rows_canonL (marksF l).length A
    have c58 := fun h => call_of (h := h) (pg := pg) (f := 58) rfl (by simp [nD, intsD, rowsD, hc1, hc2, clsD, canonL_map clD cl_canon l, st_canon]) (tight_run h0 A hA hpb hm (n := f) (by omega))
    simp only [nD, intsD, rowsD, clsD, stD, stC] at c58
    simp only [intsD, rowsD] at g9
    simp only [clsD] at v0
    simp only [stsD] at v76
    obtain ⟨F, hF⟩ : ∃ F, F = FD l A pb rd f0 i := ⟨_, rfl⟩
    have hs := fd_succ l A pb rd f0 hmo
    rw [← hF] at gf hb hs
    have hbs := hb.step (ld := tdI A pb) hrd (m := mvO m) b1
    rw [← hs] at hbs
    have hb1 : bfs1 (tdI A pb) (marksF l).length rd F (mvO m) = if F m.to_ = rd ∧ F m.fr = -1 ∧ tdI A pb (mvO m) = true then fun v => if v = m.fr then (rd : Int) + 1 else F v else F := by
      unfold bfs1
      rw [if_neg (by rw [hb.1]; simp)]
      rfl
    rw [hb1] at hs
    have hyl := yCs_len (marksF l).length F
    have y1 : ∀ h' : m.fr < (yCs (marksF l).length F).length, (yCs (marksF l).length F)[m.fr]'h' = D.int (F m.fr) := fun h' => yCs_at b1 h'
    have y2 : ∀ h' : m.to_ < (yCs (marksF l).length F).length, (yCs (marksF l).length F)[m.to_]'h' = D.int (F m.to_) := fun h' => yCs_at b2 h'
    have nfr : ∀ j, (fb = h.next + j) = False := fun j => by simp; omega
    have n9r : ∀ j, (b9 = h.next + j) = False := fun j => by simp; omega
    have nfr' : ∀ j, (h.next + j = fb) = False := fun j => by simp; omega
    have l1 : m.fr + 1 ≤ (marksF l).length := b1
    have l2 : m.to_ + 1 ≤ (marksF l).length := b2
    have hst : (yCs (marksF l).length F).take m.fr ++ D.int ((rd : Int) + 1) :: (yCs (marksF l).length F).drop (m.fr + 1) = yCs (marksF l).length (fun v => if v = m.fr then (rd : Int) + 1 else F v) := by
      rw [← yCs_set, List.set_eq_take_append_cons_drop, if_pos (by rw [hyl]; exact b1)]
    have fin : ∀ (x' : Env 158) (h' : Heap), (∀ q, q < 17 → x'.v q = x.v q) → x'.v 76 = x.v 76 → x'.v 77 = x.v 77 → x'.v 78 = D.int (i + 1 : Nat) → h'.get b9 = h.get b9 → h.next ≤ h'.next → h'.Fr → h'.get fb = some (.cells 3 (yCs (marksF l).length (FD l A pb rd f0 (i + 1)))) → ∃ j, k = j + 1 ∧ M1 l A fb b9 pb a b z rd f0 j ⟨x'.l, h', []⟩ := by
      intro x' h' u0 u76 u77 u78 u9 un uf ug
      exact ⟨k - 1, by omega, x', h', i + 1, rfl, by omega, ⟨by rw [u0 0 (by omega), K.v0], by rw [u0 1 (by omega), K.v1], by rw [u0 2 (by omega), K.v2], by rw [u0 9 (by omega), K.v9], by rw [u0 11 (by omega), K.v11], by rw [u0 12 (by omega), K.v12], by rw [u0 13 (by omega), K.v13], by rw [u9, K.g9], by omega, by omega, uf⟩, by rw [u0 15 (by omega), v15], by rw [u76, v76, stsD], by rw [u77, v77], u78, ug, hbs⟩
    cases htd : tdI A pb (mvO m) with
    | false =>
      have e1 : tfI A pb m = -1 := by unfold tfI; rw [htd]; rfl
      have e2 : ttI A pb m = -1 := by unfold ttI; rw [htd]; rfl
      rw [e1, e2] at c58
      have hs' : FD l A pb rd f0 (i + 1) = F := by rw [hs, htd]; simp
      simp [k17l1, v0, v9, v11, v13, v15, v76, v77, v78, hi, hmi, stD, stC, w1, hfr, Nat.add_assoc, g9, n9r, c58, D.cells, D.one]
      refine fin _ _ (fun q hq => ?_) (by simp) (by simp) (by simp) (by simp [n9r]) (by simp; omega) ?_ (by rw [hs']; simp [nfr, gf])
      · have ne : ∀ t, 17 ≤ t → (t = q) = False := fun t ht => by simp; omega
        simp [ne]
      · repeat' first | exact hfr' | apply Heap.Fr.bump | apply Heap.Fr.set
        all_goals first | omega | (simp <;> omega)
    | true =>
      have e1 : tfI A pb m = m.fr := by unfold tfI; rw [htd]; rfl
      have e2 : ttI A pb m = m.to_ := by unfold ttI; rw [htd]; rfl
      rw [e1, e2] at c58
      have q0 : (0 : Int) ≤ m.fr := by omega
      by_cases q1 : F m.to_ = rd
      · by_cases q2 : F m.fr = -1
        · have q2' : F m.fr < 0 := by omega
          have hs' : FD l A pb rd f0 (i + 1) = fun v => if v = m.fr then (rd : Int) + 1 else F v := by rw [hs, htd, if_pos ⟨q1, q2, rfl⟩]
          simp [k17l1, v0, v9, v11, v13, v15, v76, v77, v78, hi, hmi, stD, stC, w1, w2, hfr, Nat.add_assoc, g9, n9r, nfr, nfr', c58, D.cells, D.one, gf, hyl, y1, y2, b1, b2, l1, l2, q0, q1, q2, hst]
          refine fin _ _ (fun q hq => ?_) (by simp) (by simp) (by simp) (by simp [n9r, n9f]) (by simp; omega) ?_ (by rw [hs']; simp)
          · have ne : ∀ t, 17 ≤ t → (t = q) = False := fun t ht => by simp; omega
            simp [ne]
          · repeat' first | exact hfr' | apply Heap.Fr.bump | apply Heap.Fr.set
            all_goals first | omega | (simp <;> omega)
        · have q2' : ¬ F m.fr < 0 := by have := (hb.2 m.fr b1).1; omega
          have hs' : FD l A pb rd f0 (i + 1) = F := by rw [hs, if_neg (fun e => q2 e.2.1)]
          simp [k17l1, v0, v9, v11, v13, v15, v76, v77, v78, hi, hmi, stD, stC, w1, hfr, Nat.add_assoc, g9, n9r, nfr, nfr', c58, D.cells, D.one, gf, hyl, y1, y2, b1, b2, l1, l2, q0, q1, q2']
          refine fin _ _ (fun q hq => ?_) (by simp) (by simp) (by simp) (by simp [n9r]) (by simp; omega) ?_ (by rw [hs']; simp [nfr, gf])
          · have ne : ∀ t, 17 ≤ t → (t = q) = False := fun t ht => by simp; omega
            simp [ne]
          · repeat' first | exact hfr' | apply Heap.Fr.bump | apply Heap.Fr.set
            all_goals first | omega | (simp <;> omega)
      · have hs' : FD l A pb rd f0 (i + 1) = F := by rw [hs, if_neg (fun e => q1 e.1)]
        have q1' : (F m.to_ == (rd : Int)) = false := by simpa using q1
        simp [-beq_iff_eq, -beq_eq_false_iff_ne, k17l1, v0, v9, v11, v13, v15, v76, v77, v78, hi, hmi, stD, stC, w1, hfr, Nat.add_assoc, g9, n9r, nfr, nfr', c58, D.cells, D.one, gf, hyl, y1, y2, b1, b2, l1, l2, q0, q1']
        refine fin _ _ (fun q hq => ?_) (by simp) (by simp) (by simp) (by simp [n9r]) (by simp; omega) ?_ (by rw [hs']; simp [nfr, gf])
        · have ne : ∀ t, 17 ≤ t → (t = q) = False := fun t ht => by simp; omega
          simp [ne]
        · repeat' first | exact hfr' | apply Heap.Fr.bump | apply Heap.Fr.set
          all_goals first | omega | (simp <;> omega)
  · simp [k17l1, v77, v78, hi]
    exact ⟨_, _, i, rfl, by omega, ⟨by simp [K.v0], by simp [K.v1], by simp [K.v2], by simp [K.v9], by simp [K.v11], by simp [K.v12], by simp [K.v13], by simp [K.g9], by simp; omega, by simp; omega, hfr'.bump _⟩, by simp [v15], by simp [v76], by simp [v77], by simp [v78], by simp [gf], hb⟩
end Go.Proofs.YtfemldhlanoakaaDoor
