/- The program's CheckChronology of a world. -/
import Derived.Test.YtlfknfknlcgfcaaGreatDoorVa
namespace Go.Proofs.YtlfknfknlcgfcaaGreatDoor
open Go Go.Em
set_option maxRecDepth 100000
def fstQ (d : List Dt) (q : Qst) : Int := ixP (clsOk d) 0 q.ch
def keepW (w : Wld) (d : List Dt) : List D :=
  if chkW w ≠ 0 then [intsD [], D.int (chkW w)] else if msF d ≠ marksF (allF w) then [intsD [], D.int 3] else
  if yrsOk d = true ∧ clsOk d w.cl = true ∧ (w.qs.all fun q => decide (fstQ d q ≠ -1)) = true then [intsD (w.qs.map (fstQ d)), D.int 0] else [intsD [], D.int 23]
def VdI (w : Wld) (d : List Dt) (k8 : Nat) (k : Nat) (s : St) : Prop := ∃ (x : Env 52) (h : Heap) (i : Nat) (dd : D), s = ⟨x.l, h, []⟩ ∧ i + k = w.qs.length ∧ x.v 34 = qsD w.qs ∧ x.v 35 = D.int w.qs.length ∧ x.v 36 = D.int i ∧ x.v 8 = .fn (.func 107) [] [.ptr k8 0] ∧ h.get k8 = some (.cells 142 [.map (yM d)]) ∧ k8 < h.next ∧ x.v 9 = dd ∧ GL h dd ((w.qs.take i).map (fstQ d)) ∧ ((w.qs.take i).all fun q => decide (fstQ d q ≠ -1)) = true ∧ h.Fr
def VdQ (w : Wld) (d : List Dt) (k8 : Nat) (x : Ex) (s : St) : Prop := (x = .exit 0 ∧ VdI w d k8 0 s) ∨ (x = .ret ∧ (w.qs.all fun q => decide (fstQ d q ≠ -1)) = false ∧ ∃ (x : Env 52) (h : Heap), s = ⟨x.l, h, []⟩ ∧ x.v 4 = .val (.slice none 0 0) ∧ x.v 5 = D.int 23)
theorem ixP_bound {α : Type} (P : α → Bool) (l : List α) : -1 ≤ ixP P 0 l ∧ ixP P 0 l ≤ l.length := by
  rcases ixP_ge P l 0 with ⟨h, _⟩ | ⟨j, h, hj, _⟩
  · omega
  · omega
set_option maxHeartbeats 8000000 in
theorem vd_round (w : Wld) (d : List Dt) (k8 : Nat) (hy : yrsOk d = true) (hqs : w.qs.length ≤ 6) (h60 : ∀ q ∈ w.qs, q.ch.length ≤ 60) (hM : ∀ q ∈ w.qs, ∀ l ∈ q.ch, l.length ≤ 400) : ∀ n, 1000300 ≤ n → ∀ k s, VdI w d k8 k s → Res (k43l0.ev ⟨pg, 52, none⟩ (rc pg n) s) (Rnd (VdI w d k8) (VdQ w d k8) k) := by
  rintro n hn k s ⟨x, h, i, dd, rfl, hik, v34, v35, v36, v8, g8, l8, v9, hd, hok, hf⟩
  simp only [qsD] at v34
  by_cases hi : i < w.qs.length
  · obtain ⟨q, hq⟩ : ∃ q, w.qs[i] = q := ⟨_, rfl⟩
    have hmem : q ∈ w.qs := by rw [← hq]; exact List.getElem_mem hi
    have hq60 := h60 q hmem
    have htk : w.qs.take (i + 1) = w.qs.take i ++ [q] := by rw [List.take_add_one, List.getElem?_eq_getElem hi, hq]; rfl
    have w1 : IntKind.i64.wrap ((i : Int) + 1) = (i : Int) + 1 := wrap_i64 (by omega) (by omega)
    have hfr : ∀ j, h.raw (h.next + j) = none := fun j => hf _ (by omega)
    have ne1 : ∀ j, (k8 = h.next + j) = False := fun j => by simp; omega
    have hcap := cap_canon d
    have hix := ixL_run 107 [.eref [.map (yM d)]] (clsOk d) q.ch 1000100 rfl hcap (fun c hc n hn => hold_run d hy c (by have := hM q hmem c hc; omega) hn) (by omega) (n := n) (by omega)
    have hcall : ∀ h' : Heap, h'.get k8 = some (.cells 142 [.map (yM d)]) → call pg (rc pg n) 110 [chD q.ch, .fn (.func 107) [] [.ptr k8 0]] h' = some (.ret (D.int (fstQ d q)), h') := fun h' hg' => by
      have hm := fun k => frz_can (h := h') (n := k) (yM_canon d)
      have hz : Go.Em.frz h' 24 (.fn (.func 107) [] [.ptr k8 0]) = some (.fn (.func 107) [] [.eref [.map (yM d)]], [k8]) := by
        rw [frz_fn, each_nil, each_cons, frz_ptr, hg', frzP_cells, List.drop_zero, each_cons, hm, each_nil, eachK_some]; rfl
      have hz0 : Go.Em.frz h' 24 (chD q.ch) = some (chD q.ch, []) := frz_can (ch_canon1 q.ch)
      exact callfz (bs := [chD q.ch, .fn (.func 107) [] [.eref [.map (yM d)]]]) rfl (by rw [depth_is, each_cons, each_cons, hz0, hz, each_nil, eachK_some, eachK_some]) hix (by simp [Out.d, D.flat])
    obtain ⟨H, hH⟩ : ∃ H : Heap, H = ((((h.bump 52).bump 52).set (h.next + 63) (some (.cells 83 [D.int 0, .val (.slice none 0 0)]))).set (h.next + 63) (some (.cells 83 [D.int q.b, .sl false (q.ch.map clsD)]))).bump 52 := ⟨_, rfl⟩
    have c110 := hcall H (by rw [hH]; simp [ne1, g8])
    have gH : H.get (h.next + 63) = some (.cells 83 [D.int q.b, .sl false (q.ch.map clsD)]) := by rw [hH]; simp
    obtain ⟨f, hfq⟩ : ∃ f, f = fstQ d q := ⟨_, rfl⟩
    have hfb : -1 ≤ f ∧ f ≤ 60 := by
      have := ixP_bound (clsOk d) q.ch
      rw [hfq]; unfold fstQ; omega
    rw [← hfq] at c110
    simp only [chD] at c110
    by_cases hneg : f = -1
    · have hb : (f == -1) = true := by simp [hneg]
      simp [-beq_iff_eq, k43l0, v8, v34, v35, v36, hi, hq, qD, qC, chD, D.cells, D.one, hfr, Nat.add_assoc, ← hH, gH, c110, hb]
      refine .inr ⟨rfl, ?_, _, _, rfl, by simp, by simp⟩
      rw [List.all_eq_false]
      exact ⟨q, hmem, by rw [← hfq]; simp [hneg]⟩
    · have hb : (f == -1) = false := by simp [hneg]
      have fH : H.Fr := by
        rw [hH]
        repeat' first | exact hf | apply Heap.Fr.bump | apply Heap.Fr.set
        all_goals (simp <;> omega)
      have nH : H.next = h.next + 156 := by rw [hH]; simp
      have hfrH : ∀ j, H.raw (H.next + j) = none := fun j => fH _ (by omega)
      have oldH : ∀ j, j < h.next → H.get j = h.get j := fun j hj => by
        have : (j = h.next + 63) = False := by simp; omega
        rw [hH]; simp [this]
      have g8H : H.get k8 = some (.cells 142 [.map (yM d)]) := by rw [oldH k8 l8]; exact g8
      have hokn : ((w.qs.take (i + 1)).all fun q => decide (fstQ d q ≠ -1)) = true := by
        rw [htk, List.all_append, hok]; simp [← hfq, hneg]
      have hmp : (w.qs.take (i + 1)).map (fstQ d) = (w.qs.take i).map (fstQ d) ++ [f] := by rw [htk, List.map_append, hfq]; rfl
      obtain ⟨L, hL⟩ : ∃ L, L = (w.qs.take i).map (fstQ d) := ⟨_, rfl⟩
      have hLl : L.length ≤ 6 := by rw [hL, List.length_map, List.length_take]; omega
      rw [← hL] at hmp hd
      have ne8 : ∀ j, (k8 = H.next + j) = False := fun j => by simp; omega
      rcases hd with ⟨hL0, rfl⟩ | ⟨kk, rfl, hgk, hkk⟩
      · subst hL0
        have r1 : 8 ≤ room ∧ 1 ≤ maxLen := ⟨by unfold room; omega, by unfold maxLen; omega⟩
        simp [-beq_iff_eq, -beq_eq_false_iff_ne, k43l0, v8, v9, v34, v35, v36, hi, hq, qD, qC, chD, D.cells, D.one, hfr, Nat.add_assoc, ← hH, gH, c110, hb, hfrH, zerosD, apK_some, List.range_succ, w1, r1]
        refine ⟨k - 1, by omega, _, _, i + 1, .slr (H.next + 101) 0 1 1 none, rfl, by omega, by simp [v34, qsD], by simp [v35], by simp, by simp [v8], by simp [g8H, ne8], by simp; omega, by simp, .inr ⟨H.next + 101, by rw [hmp]; simp, by rw [hmp]; simp, by simp <;> omega⟩, hokn, ?_⟩
        repeat' first | exact fH | apply Heap.Fr.bump | apply Heap.Fr.set
        all_goals (simp <;> omega)
      · have hgkH : H.get kk = some (.cells 3 (L.map D.int)) := by rw [oldH kk hkk]; exact hgk
        have ne3 : ∀ j, (H.next + j = kk) = False := fun j => by simp; omega
        have ne4 : ∀ j, (kk = H.next + j) = False := fun j => by simp; omega
        have ne5 : (k8 = kk) = False := by
          simp; rintro rfl; rw [g8] at hgk; cases hgk
        have happ := fun t hh news => appS_none (t := t) (et := 3) (sz := 1) (bytes := 8) (h := hh) (m := 1) (news := news) (k := kk) (n := L.length) (cs := L.map D.int) (by simp) (by omega) (by unfold room; omega) (by unfold maxLen; omega)
        simp [-beq_iff_eq, -beq_eq_false_iff_ne, k43l0, v8, v9, v34, v35, v36, hi, hq, qD, qC, chD, D.cells, D.one, hfr, Nat.add_assoc, ← hH, gH, c110, hb, hfrH, zerosD, apK_some, List.range_succ, w1, hgkH, happ, ne3, ne4]
        refine ⟨k - 1, by omega, _, _, i + 1, .slr (H.next + 101) 0 (L.length + 1) 1 none, rfl, by omega, by simp [v34, qsD], by simp [v35], by simp, by simp [v8], by simp [g8H, ne8, ne5], by simp; omega, by simp, .inr ⟨H.next + 101, by rw [hmp]; simp, by rw [hmp]; simp, by simp <;> omega⟩, hokn, ?_⟩
        repeat' first | exact fH | apply Heap.Fr.bump | apply Heap.Fr.set
        all_goals (simp <;> omega)
  · simp [k43l0, v35, v36, hi]
    exact .inl ⟨rfl, _, _, i, dd, rfl, by omega, by simp [v34, qsD], by simp [v35], by simp [v36], by simp [v8], by simp [g8], by simp; omega, by simp [v9], hd.keep (by simp) (by simp), hok, hf.bump _⟩
end Go.Proofs.YtlfknfknlcgfcaaGreatDoor
/- The program's CheckChronology of a world: its run. -/
namespace Go.Proofs.YtlfknfknlcgfcaaGreatDoor
open Go Go.Em
set_option maxRecDepth 100000
theorem chunk_o1 : ∀ (l : List D) (m : Nat), m = l.length → chunk 1 m l = l
  | [], m, h => by subst h; rfl
  | a :: l, m, h => by
    subst h
    have ih := chunk_o1 l l.length rfl
    simp [chunk, ih]
theorem GL.frzn {h : Heap} {d : D} {l : List Int} (g : GL h d l) (n : Nat) : ∃ ks, Go.Em.frz h (n + 2) d = some (.sl false (l.map D.int), ks) := by
  rcases g with ⟨rfl, rfl⟩ | ⟨k, rfl, hg, _⟩
  · exact ⟨[], frz_nil ..⟩
  · refine ⟨[k], ?_⟩
    have hx := each_canon h n _ (ints_canonL l)
    rw [frz_slr, hg, frzS_cells]
    simp only [List.drop_zero, Nat.zero_add, Nat.mul_one]
    rw [if_pos ⟨by simp, by omega⟩, List.take_of_length_le (by simp), hx]
    simp only [Option.map_some]
    rw [chunk_o1 _ _ (by simp)]
theorem any_yrs (d : List Dt) : d.any yrB = !yrsOk d := by
  unfold yrsOk
  rw [List.any_eq_not_all_not]
theorem claims_mem : ∀ (l : List Qst) (m : Nat) (q : Qst), q ∈ l → mostF q.ch ≤ l.foldl (fun m q => m + mostF q.ch) m
  | a :: l, m, q, h => by
    rw [List.foldl_cons]
    rcases List.mem_cons.1 h with rfl | h
    · exact Nat.le_trans (Nat.le_add_left _ _) (claims_ge l _)
    · exact claims_mem l _ q h
set_option maxHeartbeats 16000000 in
theorem kw_run (w : Wld) (d : List Dt) (M : Nat) (hw : WB w M) (hd : d.length ≤ 10000000000000) {n : Nat} (hn : 100000000000000 ≤ n) (hMn : M ≤ 10000000000000) : pureCall (rc pg n) 43 [wD w, dtsD d] = some (.ret (.tup (keepW w d))) := by
  obtain ⟨m, rfl, e⟩ := body (pg := pg) (f := 43) (args := [wD w, dtsD d]) (show 0 < n by omega) rfl rfl
  rw [e]
  unfold keepW
  have hcan : D.canonL [wD w] = true := by simp [w_canon]
  have r57 := fun h => call_of (h := h) (pg := pg) (f := 57) rfl hcan (@cw_run w M hw m (by omega))
  by_cases h0 : chkW w = 0
  · obtain ⟨hz, h6, hall, _, h4, h64⟩ := chkw_all h0
    have h60 := len_qs hall
    rw [h0] at r57
    rw [if_neg (by simp [h0])]
    have r101 := fun h => call_of (h := h) (pg := pg) (f := 101) rfl hcan (@ow_run w M h6 h60 hw.cl hw.ch (by have := hw.M; omega) (mk_cls hz) (mk_qs hall) m (by omega))
    have hdc : (dtsD d).canon = true := by simp [dtsD, dts_canonL]
    have r100 := fun h => call_of (h := h) (pg := pg) (f := 100) rfl (by simp [hdc, intsD, ints_canonL]) (eqf_run d (marksF (allF w)) h64 (n := m) (by omega))
    simp only [wD, clsD, qsD] at r57 r101
    simp only [dtsD, intsD] at r100
    by_cases hm : msF d = marksF (allF w)
    · rw [if_neg (by simp [hm])]
      rw [decide_eq_true hm] at r100
      have hr : Rise (msF d) := by rw [hm]; exact marks_rise _
      have hd64 : d.length ≤ 64 := by have : (msF d).length = d.length := by simp [msF]
                                      rw [← this, hm]; exact h64
      have r103 := fun h => call_of (h := h) (pg := pg) (f := 103) rfl (by simp [hdc]) (conD_run 104 [] yrB d 3 rfl rfl (fun c _ n hn => nmb_run c hn) (by omega) hdc (n := m) (by omega))
      rw [any_yrs] at r103
      simp only [dtsD] at r103
      cases hy : yrsOk d with
      | false =>
        rw [hy] at r103
        rw [if_neg (by simp)]
        simp [k43, Env.v_ini, wD, clsD, qsD, dtsD, intsD, D.cells, D.one, r57, r101, r100, r103]
      | true =>
        rw [hy] at r103
        have r106 := fun h => call_of (h := h) (pg := pg) (f := 106) rfl (by simp [hdc]) (yearsof_run d hr (by omega) (n := m) (by omega))
        simp only [dtsD] at r106
        obtain ⟨H, hH⟩ : ∃ H : Heap, H = ((((((((Heap.empty.bump 52).set 2 (some (.cells 25 [.sl false (w.cl.map clD), .sl false (w.qs.map qD)]))).bump 52).bump 52).bump 52).bump 52).bump 52).set 267 (some (.cells 142 [.val (.map none)]))).set 267 (some (.cells 142 [.map (yM d)])) := ⟨_, rfl⟩
        have fH : H.Fr := by
          rw [hH]
          repeat' first | exact Heap.Fr.empty | apply Heap.Fr.bump | apply Heap.Fr.set
          all_goals simp
        have nH : H.next = 312 := by rw [hH]; simp
        have g2 : H.get 2 = some (.cells 25 [.sl false (w.cl.map clD), .sl false (w.qs.map qD)]) := by rw [hH]; simp
        have g267 : H.get 267 = some (.cells 142 [.map (yM d)]) := by rw [hH]; simp
        have hcl4 : w.cl.length ≤ 400 := (chk_ok hz).1
        have r107 : ∀ h' : Heap, h'.get 267 = some (.cells 142 [.map (yM d)]) → call pg (rc pg m) 107 [clsD w.cl, .ptr 267 0] h' = some (.ret (D.bool (clsOk d w.cl)), h') := fun h' hg' => by
          have hmc := fun k => frz_can (h := h') (n := k) (yM_canon d)
          have hz : Go.Em.frz h' 24 (.ptr 267 0) = some (.eref [.map (yM d)], [267]) := by
            rw [frz_ptr, hg', frzP_cells, List.drop_zero, each_cons, hmc, each_nil, eachK_some]; rfl
          have hz0 : Go.Em.frz h' 24 (clsD w.cl) = some (clsD w.cl, []) := frz_can (cls_canon1 w.cl)
          exact callfz (bs := [clsD w.cl, .eref [.map (yM d)]]) rfl (by rw [depth_is, each_cons, each_cons, hz0, hz, each_nil, eachK_some, eachK_some]) (hold_run d hy w.cl (by omega) (n := m) (by omega)) (by simp [Out.d, D.flat])
        have r107' := r107 ((H.bump 52).bump 52) (by simpa using g267)
        simp only [clsD] at r107'
        cases hcl : clsOk d w.cl with
        | false =>
          rw [hcl] at r107'
          rw [if_neg (by simp)]
          simp [k43, Env.v_ini, wD, clsD, qsD, dtsD, intsD, D.cells, D.one, r57, r101, r100, r103, r106, ← hH, g2, r107']
        | true =>
          rw [hcl] at r107'
          obtain ⟨A, hA⟩ : ∃ A, A = w.qs.all fun q => decide (fstQ d q ≠ -1) := ⟨_, rfl⟩
          have hM4 : ∀ q ∈ w.qs, ∀ l ∈ q.ch, l.length ≤ 400 := fun q hq l hl => by
            have h1 := claims_mem w.qs w.cl.length q hq
            have h2 := most_mem q.ch 0 l hl
            have : claimsF w = w.qs.foldl (fun m q => m + mostF q.ch) w.cl.length := rfl
            unfold mostF at h1
            rw [this] at h4
            unfold mostF at h4
            omega
          rw [← hA]
          simp [k43, Env.v_ini, wD, clsD, qsD, dtsD, intsD, D.cells, D.one, r57, r101, r100, r103, r106, ← hH, g2, r107', ev_loop]
          refine Res.endsAfter (lp_rule 1000300 (VdI w d 267) _ (vd_round w d 267 hy h6 h60 hM4) w.qs.length m _ (by omega) ⟨_, _, 0, .val (.slice none 0 0), rfl, by omega, by simp [qsD], by simp, by simp, by simp, by simp [g267], by simp; omega, by simp, .inl ⟨by simp, rfl⟩, by simp, ?_⟩) ?_
          · repeat' first | exact fH | apply Heap.Fr.bump | apply Heap.Fr.set
          · rintro y s (⟨rfl, x, h, i, dd, rfl, hi, _, _, _, _, _, _, v9, hdd, hok, hf⟩ | ⟨rfl, hbad, x, h, rfl, v4, v5⟩)
            · have hil : i = w.qs.length := by omega
              subst hil
              rw [List.take_length] at hdd hok
              rw [hok] at hA
              obtain ⟨ks, hzz⟩ := GL.frzn (hdd.keep (h' := h.bump 52) (by simp) (by simp)) 21
              rw [hA]
              simp only [List.map_map] at hzz
              simp [v9, hzz]
            · rw [hbad] at hA
              rw [hA]
              simp [v4, v5]
    · rw [if_pos hm]
      rw [decide_eq_false hm] at r100
      simp [k43, Env.v_ini, wD, clsD, qsD, dtsD, intsD, D.cells, D.one, r57, r101, r100]
  · rw [if_pos h0]
    simp only [wD, clsD, qsD] at r57
    have hb : (chkW w != 0) = true := by simp [h0]
    simp [-bne_iff_ne, k43, Env.v_ini, wD, clsD, qsD, intsD, D.cells, D.one, r57, hb]
end Go.Proofs.YtlfknfknlcgfcaaGreatDoor
