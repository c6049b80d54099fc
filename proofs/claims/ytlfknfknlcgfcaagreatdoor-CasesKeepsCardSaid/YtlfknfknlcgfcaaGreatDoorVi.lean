/- The first choices with which claims hold: of all choices, and question by question. -/
import Derived.Test.YtlfknfknlcgfcaaGreatDoorVf
import Derived.Test.YtlfknfknlcgfcaaGreatDoorSane
import Derived.Test.YtlfknfknlcgfcaaGreatDoorYin
namespace Go.Proofs.YtlfknfknlcgfcaaGreatDoor
open Go Go.Em
set_option maxRecDepth 100000
def RQ (d : List Dt) (p : Qst × Int) : Bool := clsOk d (pickC p)
theorem cls_app (d : List Dt) (a b : List Clm) : clsOk d (a ++ b) = (clsOk d a && clsOk d b) := by unfold clsOk; rw [List.all_append]
theorem cls_up (w : Wld) (d : List Dt) (x : List Int) : clsOk d (upF w x) = (clsOk d w.cl && (w.qs.zip x).all (RQ d)) := by
  unfold upF
  rw [cls_app]
  congr 1
  have : ∀ l : List (Qst × Int), clsOk d (l.flatMap pickC) = l.all (RQ d) := by
    intro l
    induction l with
    | nil => rfl
    | cons p l ih => rw [List.flatMap_cons, cls_app, ih, List.all_cons]; rfl
  exact this _
theorem find_some {α β : Type} (G : α → Option β) (p : α → Bool) (b : Bool) (g : α → β) : ∀ (l : List α), (∀ x ∈ l, G x = if p x = true then (if b = true then some (g x) else none) else none) → l.findSome? G = if b = true then (l.find? p).map g else none
  | [], _ => by simp
  | a :: l, h => by
    have h1 := h a List.mem_cons_self
    have ih := find_some G p b g l fun x hx => h x (List.mem_cons_of_mem _ hx)
    rw [List.findSome?_cons, h1, List.find?_cons]
    cases hp : p a with
    | true => cases b <;> simp [ih]
    | false => simp [ih]
theorem ix_find {α : Type} (P : α → Bool) (dflt : α) (l : List α) : (List.range l.length).find? (fun c => P (l.getD c dflt)) = if ixP P 0 l = -1 then none else some (ixP P 0 l).toNat := by
  rcases ixP_ge P l 0 with ⟨h1, h2⟩ | ⟨j, h1, h2, h3, h4, h5⟩
  · rw [if_pos h1, List.find?_eq_none]
    intro c hc
    have hc' : c < l.length := by simpa using hc
    simp [hc', h2 _ (List.getElem_mem hc')]
  · rw [if_neg (by omega), h1]
    rw [List.find?_range_eq_some]
    refine ⟨by simp [h4, h5], by simpa using h2, fun k hk => ?_⟩
    have hk' : k < j := by simpa using hk
    have hkl : k < l.length := by omega
    have hm : l[k] ∈ l.take j := by
      rw [List.mem_take_iff_getElem]
      exact ⟨k, by omega, rfl⟩
    simp [hkl, h3 _ hm]
theorem find_all (d : List Dt) (qs : List Qst) : ∀ i, i ≤ qs.length → (allL (qs.take i)).find? (fun x => ((qs.take i).zip x).all (RQ d)) = if ((qs.take i).all fun q => decide (fstQ d q ≠ -1)) = true then some ((qs.take i).map (fstQ d)) else none
  | 0, _ => by simp [allL]
  | i + 1, hi => by
    have ih := find_all d qs i (by omega)
    obtain ⟨q, hq⟩ : ∃ q, qs[i] = q := ⟨_, rfl⟩
    have htk : qs.take (i + 1) = qs.take i ++ [q] := by rw [List.take_add_one, List.getElem?_eq_getElem (by omega), hq]; rfl
    obtain ⟨T, hT⟩ : ∃ T, T = qs.take i := ⟨_, rfl⟩
    rw [htk, ← hT, all_snoc, List.all_append, List.map_append]
    rw [← hT] at ih
    unfold stepA
    rw [List.find?_flatMap, find_some _ (fun x => (T.zip x).all (RQ d)) (decide (fstQ d q ≠ -1)) (fun x => x ++ [fstQ d q]) _ ?_, ih]
    · by_cases hf : fstQ d q = -1
      · simp [hf]
      · simp only [ne_eq, hf, not_false_eq_true, decide_true, if_true, List.all_cons, List.all_nil, Bool.and_true]
        split <;> simp
    · intro x hx
      have hxl := all_el T x hx
      unfold rowF
      rw [List.find?_map]
      have hz : ∀ c : Nat, ((T ++ [q]).zip (x ++ [(c : Int)])).all (RQ d) = ((T.zip x).all (RQ d) && clsOk d (q.ch.getD c [])) := fun c => by
        rw [List.zip_append hxl.symm, List.all_append]
        simp [RQ, pickC]
      cases hA : (T.zip x).all (RQ d) with
      | false =>
        have : (List.range q.ch.length).find? ((fun y => ((T ++ [q]).zip y).all (RQ d)) ∘ fun c : Nat => x ++ [(c : Int)]) = none := by
          rw [List.find?_eq_none]
          intro c _
          simp only [Function.comp, hz, hA, Bool.false_and]
          decide
        rw [this]; simp
      | true =>
        have e1 : ((fun y => ((T ++ [q]).zip y).all (RQ d)) ∘ fun c : Nat => x ++ [(c : Int)]) = fun c => clsOk d (q.ch.getD c []) := by
          funext c
          simp only [Function.comp, hz, hA, Bool.true_and]
        rw [e1, ix_find (clsOk d) [] q.ch]
        have hb := ixP_bound (clsOk d) q.ch
        unfold fstQ
        by_cases hf : ixP (clsOk d) 0 q.ch = -1
        · simp [hf]
        · have : ((ixP (clsOk d) 0 q.ch).toNat : Int) = ixP (clsOk d) 0 q.ch := by omega
          simp [hf, this]
end Go.Proofs.YtlfknfknlcgfcaaGreatDoor
/- The document's CheckChronology of a world. -/
namespace Go.Proofs.YtlfknfknlcgfcaaGreatDoor
open Go Go.Em
set_option maxRecDepth 100000
theorem all_ok {qs : List Qst} : ∀ i, i ≤ qs.length → ∀ x ∈ allL (qs.take i), ((qs.take i).zip x).all okCh = true
  | 0, _, x, hx => by simp
  | i + 1, hi, x, hx => by
    obtain ⟨q, hq⟩ : ∃ q, qs[i] = q := ⟨_, rfl⟩
    have htk : qs.take (i + 1) = qs.take i ++ [q] := by rw [List.take_add_one, List.getElem?_eq_getElem (by omega), hq]; rfl
    rw [htk] at hx ⊢
    rw [all_snoc] at hx
    unfold stepA at hx
    obtain ⟨z, hz, hy⟩ := List.mem_flatMap.1 hx
    unfold rowF at hy
    obtain ⟨c, hc, rfl⟩ := List.mem_map.1 hy
    have hc' : c < q.ch.length := by simpa using hc
    have ih := all_ok i (by omega) z hz
    rw [List.zip_append (all_el _ z hz).symm, List.all_append, ih]
    simp [okCh, inR_eq]; omega
theorem chs_all {w : Wld} (h0 : chkW w = 0) {x : List Int} (hx : x ∈ allL w.qs) : Chs w x := by
  obtain ⟨_, h6, _, _, h5, _⟩ := chkw_all h0
  have hl := all_el w.qs x hx
  have ho := all_ok (qs := w.qs) w.qs.length (Nat.le_refl _) x (by rw [List.take_length]; exact hx)
  rw [List.take_length] at ho
  exact ⟨by omega, ho, h5, by omega⟩
def VjI (w : Wld) (d : List Dt) (k : Nat) (s : St) : Prop := ∃ (x : Env 36) (h : Heap) (kb i : Nat), s = ⟨x.l, h, []⟩ ∧ i + k = (allL w.qs).length ∧ x.v 1 = dtsD d ∧ x.v 2 = .ptr kb 0 ∧ h.get kb = some (.cells 25 [clsD w.cl, qsD w.qs]) ∧ kb < h.next ∧ x.v 23 = llD (allL w.qs) ∧ x.v 24 = D.int (allL w.qs).length ∧ x.v 25 = D.int i ∧ (∀ y ∈ (allL w.qs).take i, clsOk d (upF w y) = false) ∧ h.Fr
def VjQ (w : Wld) (d : List Dt) (x : Ex) (s : St) : Prop := (x = .exit 0 ∧ VjI w d 0 s) ∨ (x = .ret ∧ ∃ y, (allL w.qs).find? (fun y => clsOk d (upF w y)) = some y ∧ ∃ (x : Env 36) (h : Heap), s = ⟨x.l, h, []⟩ ∧ x.v 4 = intsD y ∧ x.v 5 = D.int 0)
set_option maxHeartbeats 8000000 in
theorem vj_round (w : Wld) (d : List Dt) (h0 : chkW w = 0) (hy : yrsOk d = true) (hd : d.length ≤ 64) : ∀ n, 3000 ≤ n → ∀ k s, VjI w d k s → Res (k45l0.ev ⟨pg, 36, none⟩ (rc pg n) s) (Rnd (VjI w d) (VjQ w d) k) := by
  rintro n hn k s ⟨x, h, kb, i, rfl, hik, v1, v2, hg, hk, v23, v24, v25, hno, hf⟩
  obtain ⟨_, h6, hall, hl3, h5, _⟩ := chkw_all h0
  have hlen : (allL w.qs).length ≤ 3000 := by rw [all_len]; exact hl3
  by_cases hi : i < (allL w.qs).length
  · obtain ⟨y, hyy⟩ : ∃ y, (allL w.qs)[i] = y := ⟨_, rfl⟩
    have hmem : y ∈ allL w.qs := by rw [← hyy]; exact List.getElem_mem hi
    have hC := chs_all h0 hmem
    have w1 : IntKind.i64.wrap ((i : Int) + 1) = (i : Int) + 1 := wrap_i64 (by omega) (by omega)
    have htk : (allL w.qs).take (i + 1) = (allL w.qs).take i ++ [y] := by rw [List.take_add_one, List.getElem?_eq_getElem hi, hyy]; rfl
    have r62 := fun h => call_of (h := h) (pg := pg) (f := 62) rfl (by simp [w_canon, intsD, ints_canonL]) (@upto_run w y hC n (by have := hC.l6; omega))
    have hul : (upF w y).length ≤ 400 := by
      have := up_le w y y.length
      rw [up_all (Nat.le_refl _)] at this
      exact Nat.le_trans this h5
    have r44 := fun h => call_of (h := h) (pg := pg) (f := 44) rfl (cd_canon (upF w y) d) (@keeps_run d (by omega) hy (upF w y) hul n (by omega))
    simp only [wD, clsD, qsD, intsD] at r62
    simp only [clsD, dtsD] at r44
    simp only [clsD, qsD] at hg
    simp only [dtsD] at v1
    simp only [llD] at v23
    have hlt : ((allL w.qs).map intsD)[i]? = some (intsD y) := by rw [List.getElem?_map, List.getElem?_eq_getElem hi, hyy]; rfl
    obtain ⟨LL, hLL⟩ : ∃ LL, LL = allL w.qs := ⟨_, rfl⟩
    have hi' : i < LL.length := by rw [hLL]; exact hi
    have hyy' : LL[i]'hi' = y := by subst hLL; exact hyy
    rw [← hLL] at v23 v24 hlt
    cases hc : clsOk d (upF w y) with
    | true =>
      rw [hc] at r44
      simp [k45l0, v1, v2, v23, v24, v25, hi', hyy', hg, intsD, D.cells, r62, r44]
      refine .inr ⟨rfl, y, ?_, _, _, rfl, by simp [intsD], by simp⟩
      rw [List.find?_eq_some_iff_getElem]
      refine ⟨hc, i, hi, hyy, fun j hj => ?_⟩
      rw [hno _ (by rw [List.mem_take_iff_getElem]; exact ⟨j, by omega, rfl⟩)]; rfl
    | false =>
      rw [hc] at r44
      simp [k45l0, v1, v2, v23, v24, v25, hi', hyy', hg, intsD, D.cells, r62, r44, w1]
      refine ⟨k - 1, by omega, _, _, kb, i + 1, rfl, by omega, by simp [v1, dtsD], by simp [v2], by simp [hg, clsD, qsD], by simp; omega, by simp [v23, llD, hLL], by simp [v24, hLL], by simp, fun z hz => ?_, by repeat' first | exact hf | apply Heap.Fr.bump⟩
      rw [htk] at hz
      rcases List.mem_append.1 hz with hz | hz
      · exact hno z hz
      · rw [List.mem_singleton.1 hz]; exact hc
  · obtain ⟨LL, hLL⟩ : ∃ LL, LL = allL w.qs := ⟨_, rfl⟩
    rw [← hLL] at v24 hi
    simp [k45l0, v24, v25, hi]
    exact .inl ⟨rfl, _, _, kb, i, rfl, by rw [← hLL]; rw [← hLL] at hik; omega, by simp [v1], by simp [v2], by simp [hg], by simp; omega, by simp [v23], by simp [v24, hLL], by simp [v25], hno, hf.bump _⟩
def ansK (o : Option (List Int)) : List D := match o with
  | some y => [intsD y, D.int 0]
  | none => [intsD [], D.int 23]
theorem atId_sl2 (z : Bool) (l : List D) : atId (.sl z l) = none := rfl
set_option maxHeartbeats 16000000 in
theorem rkw_run (w : Wld) (d : List Dt) (M : Nat) (hw : WB w M) (hd : d.length ≤ 10000000000000) {n : Nat} (hn : 100000000000000 ≤ n) (hMn : M ≤ 10000000000000) : pureCall (rc pg n) 45 [wD w, dtsD d] = some (.ret (.tup (keepW w d))) := by
  obtain ⟨m, rfl, e⟩ := body (pg := pg) (f := 45) (args := [wD w, dtsD d]) (show 0 < n by omega) rfl rfl
  rw [e]
  unfold keepW
  have hcan : D.canonL [wD w] = true := by simp [w_canon]
  have r60 := fun h => call_of (h := h) (pg := pg) (f := 60) rfl hcan (@rcw_run w M hw m (by omega))
  by_cases h0 : chkW w = 0
  · obtain ⟨hz, h6, hall, hl3, h4, h64⟩ := chkw_all h0
    have h60 := len_qs hall
    rw [h0] at r60
    rw [if_neg (by simp [h0])]
    have hdc : (dtsD d).canon = true := by simp [dtsD, dts_canonL]
    have r52 := @rms_world w M h6 h60 hw.cl hw.ch (by have := hw.M; omega) (mk_cls hz) (mk_qs hall) m (by omega)
    have r112 := @mof_run d hd m (by omega)
    have r41 := @sameI_run (msF d) (marksF (allF w)) (by omega) m (by omega)
    have s52 : pg.sh 52 = false := rfl
    have s112 : pg.sh 112 = false := rfl
    have s41 : pg.sh 41 = false := rfl
    have hc41 : D.canonL [intsD (msF d), intsD (marksF (allF w))] = true := by simp [intsD, ints_canonL]
    have hc112 : D.canonL [dtsD d] = true := by simp [hdc]
    simp only [wD, clsD, qsD] at r60 r52 hcan
    simp only [dtsD, intsD] at r112 r41 hc41 hc112
    simp only [intsD] at r52
    unfold sameF at r41
    by_cases hm : msF d = marksF (allF w)
    · rw [if_neg (by simp [hm])]
      rw [decide_eq_true hm] at r41
      have hd64 : d.length ≤ 64 := by
        have : (msF d).length = d.length := by simp [msF]
        rw [← this, hm]; exact h64
      have r113 := fun h => call_of (h := h) (pg := pg) (f := 113) rfl (by simp [hdc]) (@yrs_run d hd m (by omega))
      simp only [dtsD] at r113
      cases hy : yrsOk d with
      | false =>
        rw [hy] at r113
        rw [if_neg (by simp)]
        simp [k45, Env.v_ini, wD, clsD, qsD, dtsD, intsD, D.cells, D.one, r60, dcore_f, atId_sl2, s52, s112, s41, hcan, hc41, hc112, r52, r112, r41, r113]
      | true =>
        rw [hy] at r113
        have r114 := fun h => call_of (h := h) (pg := pg) (f := 114) rfl (by simp [w_canon]) (@all_run w hall h6 hl3 m (by omega))
        simp only [wD, clsD, qsD, llD] at r114
        obtain ⟨R, hR⟩ : ∃ R, R = (if clsOk d w.cl = true ∧ (w.qs.all fun q => decide (fstQ d q ≠ -1)) = true then some (w.qs.map (fstQ d)) else none) := ⟨_, rfl⟩
        have hfind : (allL w.qs).find? (fun y => clsOk d (upF w y)) = R := by
          have hfa := find_all d w.qs w.qs.length (Nat.le_refl _)
          rw [List.take_length] at hfa
          rw [hR]
          cases hcl : clsOk d w.cl with
          | false =>
            rw [if_neg (by simp), List.find?_eq_none]
            intro y _
            simp [cls_up, hcl]
          | true =>
            have e1 : (fun y => clsOk d (upF w y)) = fun x => ((w.qs.zip x).all (RQ d)) := by funext y; rw [cls_up, hcl, Bool.true_and]
            rw [e1, hfa]
            simp
        have hif : (if true = true ∧ clsOk d w.cl = true ∧ (w.qs.all fun q => decide (fstQ d q ≠ -1)) = true then [intsD (w.qs.map (fstQ d)), D.int 0] else [intsD [], D.int 23]) = ansK R := by
          rw [hR]
          by_cases hc : clsOk d w.cl = true ∧ (w.qs.all fun q => decide (fstQ d q ≠ -1)) = true
          · rw [if_pos ⟨rfl, hc⟩, if_pos hc]; rfl
          · rw [if_neg (fun h => hc h.2), if_neg hc]; rfl
        rw [hif]
        simp [k45, Env.v_ini, wD, clsD, qsD, dtsD, D.cells, D.one, r60, dcore_f, atId_sl2, s52, s112, s41, hcan, hc41, hc112, r52, r112, r41, r113, r114, ev_loop]
        refine Res.endsAfter (lp_rule 3000 (VjI w d) _ (vj_round w d h0 hy hd64) (allL w.qs).length m _ (by have := all_len w.qs; omega) ⟨_, _, 2, 0, rfl, by omega, by simp [Env.v_ini, dtsD], by simp, by simp [clsD, qsD], by simp, by simp [llD], by simp, by simp, by simp, ?_⟩) ?_
        · repeat' first | exact Heap.Fr.empty | apply Heap.Fr.bump | apply Heap.Fr.set
          all_goals simp
        · rintro y s (⟨rfl, x, h, kb, i, rfl, hi, _, _, _, _, _, _, _, hno, hf⟩ | ⟨rfl, y, hfy, x, h, rfl, v4, v5⟩)
          · have hil : i = (allL w.qs).length := by omega
            subst hil
            rw [List.take_length] at hno
            have : R = none := by
              rw [← hfind, List.find?_eq_none]
              intro z hz
              rw [hno z hz]; decide
            rw [this]
            simp [ansK, intsD]
          · rw [hfind] at hfy
            rw [hfy]
            have hx := fun H d => each_canon H d _ (ints_canonL y)
            simp only [intsD] at v4
            simp [ansK, intsD, v4, v5, hx]
    · rw [if_pos hm]
      rw [decide_eq_false hm] at r41
      simp [k45, Env.v_ini, wD, clsD, qsD, dtsD, intsD, D.cells, D.one, r60, dcore_f, atId_sl2, s52, s112, s41, hcan, hc41, hc112, r52, r112, r41]
  · rw [if_pos h0]
    simp only [wD, clsD, qsD] at r60
    have hb : (chkW w != 0) = true := by simp [h0]
    simp [-bne_iff_ne, k45, Env.v_ini, wD, clsD, qsD, intsD, D.cells, D.one, r60, hb]
end Go.Proofs.YtlfknfknlcgfcaaGreatDoor
/- The law: CheckChronology of both sides answers the same. -/
namespace Go.Proofs.YtlfknfknlcgfcaaGreatDoor
open Go Go.Em
set_option maxRecDepth 100000
theorem keepW_two (w : Wld) (d : List Dt) : ∃ l e, keepW w d = [intsD l, D.int e] ∧ l.length ≤ 6 := by
  unfold keepW
  by_cases h0 : chkW w = 0
  · rw [if_neg (by simp [h0])]
    obtain ⟨_, h6, _⟩ := chkw_all h0
    split
    · exact ⟨[], _, rfl, by simp⟩
    · split
      · exact ⟨_, _, rfl, by simpa using h6⟩
      · exact ⟨[], _, rfl, by simp⟩
  · rw [if_pos h0]
    exact ⟨[], _, rfl, by simp⟩
set_option maxHeartbeats 8000000 in
theorem keepsW_law (w : Wld) (d : List Dt) (M : Nat) (hw : WB w M) (hM : M ≤ 10000000000000) (hd : d.length ≤ 10000000000000) {n : Nat} (hn : 200000000000000 ≤ n) : pureCall (rc pg n) 9 [wD w, dtsD d] = some (.ret (D.bool true)) := by
  obtain ⟨m, rfl, e⟩ := body (pg := pg) (f := 9) (args := [wD w, dtsD d]) (show 0 < n by omega) rfl rfl
  rw [e]
  have hcan2 : D.canonL [wD w, dtsD d] = true := by simp [w_canon, dtsD, dts_canonL]
  have r43 := fun h => call_of (h := h) (pg := pg) (f := 43) rfl hcan2 (@kw_run w d M hw hd m (by omega) hM)
  have r45 := fun h => call_of (h := h) (pg := pg) (f := 45) rfl hcan2 (@rkw_run w d M hw hd m (by omega) hM)
  obtain ⟨l, er, ha, hl⟩ := keepW_two w d
  rw [ha] at r43 r45
  have r41 := fun h => call_of (h := h) (pg := pg) (f := 41) rfl (by simp [intsD, ints_canonL]) (@sameI_run l l (by omega) m (by omega))
  have e9 : sameF l l = true := by simp [sameF]
  rw [e9] at r41
  have r21 := fun h => @sane_call m (by omega) h
  simp only [wD, clsD, qsD, dtsD, intsD] at r43 r45 r41
  simp [k9, Env.v_ini, wD, clsD, qsD, dtsD, D.cells, D.one, r43, r45, r41, r21]
theorem keeps_all (w : Wld) (d : List Dt) (h : WOk w) (hd : d.length * 16 ≤ reachBytes) {n : Nat} (hn : 200000000000000 ≤ n) : pureCall (rc pg n) 9 [wD w, dtsD d] = some (.ret (.val (.bool true))) := by
  have r : reachBytes ≤ 140737488355328 := by unfold reachBytes; decide
  have h1 := h.cl
  exact keepsW_law w d 10000000000000 ⟨by omega, fun q hq l hl => by have := (h.ch q hq).2 l hl; omega, by decide⟩ (by decide) (by omega) hn
end Go.Proofs.YtlfknfknlcgfcaaGreatDoor
