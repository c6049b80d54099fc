/- The sources of a world, by the program. -/
import Derived.Test.YtmncdmpeeibgmaaGreatDoorY9
import Derived.Test.YtmncdmpeeibgmaaGreatDoorQv1
import Derived.Test.YtmncdmpeeibgmaaGreatDoorY9
namespace Go.Proofs.YtmncdmpeeibgmaaGreatDoor
open Go Go.Em
set_option maxRecDepth 100000
def SpL (h : Heap) (d : D) (S : List Int) : Prop := ∃ (kb : Nat) (cap : Option Nat) (Z : List Int), d = .slr kb 0 S.length 1 cap ∧ h.get kb = some (.cells 3 ((S ++ Z).map D.int)) ∧ kb < h.next ∧ S.length + Z.length ≤ 1000 ∧ ((∃ z Z', Z = z :: Z' ∧ cap = some (S.length + Z'.length + 1)) ∨ (Z = [] ∧ (cap = some S.length ∨ cap = none)))
theorem SpL.bump {h : Heap} {d : D} {S : List Int} (s : SpL h d S) (z : Nat) : SpL (h.bump z) d S := by
  obtain ⟨kb, cap, Z, e, hg, hk, hb, hc⟩ := s
  exact ⟨kb, cap, Z, e, by simp [hg], by simp; omega, hb, hc⟩
theorem app_in {t kb N : Nat} {h : Heap} {X z : D} {B1 B2 : List D} (hN : B1.length = N) (hs : N + B2.length + 1 ≤ 1000000) : appS t 3 1 8 h 1 [X] kb 0 N 1 (some (N + B2.length + 1)) (some (.cells 3 (B1 ++ z :: B2))) = some (.slr kb 0 (N + 1) 1 (some (N + B2.length + 1)), h.set kb (some (.cells 3 (B1 ++ X :: B2)))) := by
  subst hN
  unfold appS
  have r1 : (B1.length + 1) * 8 ≤ room := by unfold room; omega
  have r2 : B1.length + 1 ≤ maxLen := by unfold maxLen; omega
  have r3 : B1.length + 1 ≤ B1.length + B2.length + 1 := by omega
  simp [r1, r2, r3]
theorem app_out {t kb N : Nat} {h : Heap} {X : D} {B : List D} (hN : B.length = N) (hs : N + 1 ≤ 1000000) : appS t 3 1 8 h 1 [X] kb 0 N 1 (some N) (some (.cells 3 B)) = (h.alloc t (.cells 3 (B ++ [X]))).map fun h => (.slr t 0 (N + 1) 1 none, h) := by
  subst hN
  unfold appS
  have r1 : (B.length + 1) * 8 ≤ room := by unfold room; omega
  have r2 : B.length + 1 ≤ maxLen := by unfold maxLen; omega
  simp [r1, r2]
  intro h; omega
def YcI (w : Wld) (k : Nat) (s : St) : Prop := ∃ (x : Env 29) (h : Heap) (i : Nat), s = ⟨x.l, h, []⟩ ∧ i + k = w.qs.length ∧ x.v 13 = qsD w.qs ∧ x.v 14 = D.int w.qs.length ∧ x.v 15 = D.int i ∧ SpL h (x.v 3) (srcF w.cl ++ (w.qs.take i).map Qst.b) ∧ h.Fr
set_option maxHeartbeats 8000000 in
theorem yc_round (w : Wld) (hcl : w.cl.length ≤ 400) (hqs : w.qs.length ≤ 6) : ∀ n, 10 ≤ n → ∀ k s, YcI w k s → Res (k10l0.ev ⟨pg, 29, none⟩ (rc pg n) s) (Rnd (YcI w) (fun x s => x = .exit 0 ∧ YcI w 0 s) k) := by
  rintro n hn k s ⟨x, h, i, rfl, hik, v13, v14, v15, ⟨kb, cap, Z, v3, hg, hk, hb, hc⟩, hf⟩
  simp only [qsD] at v13
  by_cases hi : i < w.qs.length
  · obtain ⟨q, hl⟩ : ∃ q, w.qs[i] = q := ⟨_, rfl⟩
    have w1 : IntKind.i64.wrap ((i : Int) + 1) = (i : Int) + 1 := wrap_i64 (by omega) (by omega)
    have hfr : ∀ j, h.raw (h.next + j) = none := fun j => hf _ (by omega)
    have n1 : ∀ j, (kb = h.next + j) = False := fun j => by simp; omega
    have n2 : ∀ j, (h.next + j = kb) = False := fun j => by simp; omega
    have htk : (w.qs.take (i + 1)).map Qst.b = (w.qs.take i).map Qst.b ++ [q.b] := by rw [List.take_add_one, List.getElem?_eq_getElem hi, hl]; simp
    obtain ⟨S, hS⟩ : ∃ S, S = srcF w.cl ++ (w.qs.take i).map Qst.b := ⟨_, rfl⟩
    have hS1 : srcF w.cl ++ (w.qs.take (i + 1)).map Qst.b = S ++ [q.b] := by rw [htk, hS, List.append_assoc]
    have hSl : S.length ≤ 406 := by
      have := src_len w.cl
      rw [hS, List.length_append, List.length_map, List.length_take]; omega
    rw [← hS] at v3 hg hb hc
    have hz1 : zerosD [.int .i64 0] 1 1 = [D.int 0] := rfl
    rcases hc with ⟨z, Z', rfl, rfl⟩ | ⟨rfl, rfl | rfl⟩
    · have happ : ∀ (t : Nat) (h : Heap) (X : D), appS t 3 1 8 h 1 [X] kb 0 S.length 1 (some (S.length + Z'.length + 1)) (some (.cells 3 (S.map D.int ++ D.int z :: Z'.map D.int))) = some (.slr kb 0 (S.length + 1) 1 (some (S.length + Z'.length + 1)), h.set kb (some (.cells 3 (S.map D.int ++ X :: Z'.map D.int)))) := fun t h X => by
        have := @app_in t kb S.length h X (D.int z) (S.map D.int) (Z'.map D.int) (by simp) (by simp at hb ⊢; omega)
        simpa using this
      rw [List.map_append, List.map_cons] at hg
      rw [Nat.add_assoc] at happ v3
      simp [k10l0, v3, v13, v14, v15, hi, hl, qD, qC, chD, D.cells, D.one, hfr, Nat.add_assoc, n1, w1, hg, happ, hz1, apK_some]
      refine ⟨k - 1, by omega, _, _, i + 1, rfl, by omega, by simp [v13, qsD], by simp [v14], by simp, ?_, ?_⟩
      · rw [hS1]
        refine ⟨kb, some (S.length + (Z'.length + 1)), Z', by simp, by simp, by simp; omega, by simp at hb ⊢; omega, ?_⟩
        cases Z' with
        | nil => exact .inr ⟨rfl, .inl (by simp)⟩
        | cons z2 Z2 => exact .inl ⟨z2, Z2, rfl, by simp; omega⟩
      · repeat' first | exact hf | apply Heap.Fr.bump | apply Heap.Fr.set
        all_goals (simp <;> omega)
    · have happ : ∀ (t : Nat) (h : Heap) (X : D), appS t 3 1 8 h 1 [X] kb 0 S.length 1 (some S.length) (some (.cells 3 (S.map D.int))) = (h.alloc t (.cells 3 (S.map D.int ++ [X]))).map fun h => (.slr t 0 (S.length + 1) 1 none, h) := fun t h X => app_out (by simp) (by omega)
      rw [List.append_nil] at hg
      simp [k10l0, v3, v13, v14, v15, hi, hl, qD, qC, chD, D.cells, D.one, hfr, Nat.add_assoc, n1, w1, hg, happ, hz1, apK_some]
      refine ⟨k - 1, by omega, _, _, i + 1, rfl, by omega, by simp [v13, qsD], by simp [v14], by simp, ?_, ?_⟩
      · rw [hS1]
        exact ⟨h.next + 81, none, [], by simp, by simp, by simp <;> omega, by simp <;> omega, .inr ⟨rfl, .inr rfl⟩⟩
      · repeat' first | exact hf | apply Heap.Fr.bump | apply Heap.Fr.set
        all_goals (simp <;> omega)
    · have happ : ∀ (t : Nat) (h : Heap) (X : D), appS t 3 1 8 h 1 [X] kb 0 S.length 1 none (some (.cells 3 (S.map D.int))) = ((h.set kb none).alloc t (.cells 3 (S.map D.int ++ [X]))).map fun h => (.slr t 0 (S.length + 1) 1 none, h) := fun t h X => appS_none (by simp) (by omega) (by unfold room; omega) (by unfold maxLen; omega)
      rw [List.append_nil] at hg
      simp [k10l0, v3, v13, v14, v15, hi, hl, qD, qC, chD, D.cells, D.one, hfr, Nat.add_assoc, n1, n2, w1, hg, happ, hz1, apK_some]
      refine ⟨k - 1, by omega, _, _, i + 1, rfl, by omega, by simp [v13, qsD], by simp [v14], by simp, ?_, ?_⟩
      · rw [hS1]
        exact ⟨h.next + 81, none, [], by simp, by simp, by simp <;> omega, by simp <;> omega, .inr ⟨rfl, .inr rfl⟩⟩
      · repeat' first | exact hf | apply Heap.Fr.bump | apply Heap.Fr.set
        all_goals (simp <;> omega)
  · simp [k10l0, v14, v15, hi]
    exact ⟨_, _, i, rfl, by omega, by simp [v13, qsD], by simp [v14], by simp [v15], SpL.bump ⟨kb, cap, Z, by simp [v3], hg, hk, hb, hc⟩ _, hf.bump _⟩
end Go.Proofs.YtmncdmpeeibgmaaGreatDoor
/- The sources of a world, by the program: the whole. -/
namespace Go.Proofs.YtmncdmpeeibgmaaGreatDoor
open Go Go.Em
set_option maxRecDepth 100000
theorem chkw_ok {w : Wld} (h : chkW w = 0) : chkF w.cl = 0 ∧ w.qs.length ≤ 6 ∧ w.qs.all okQ = true := by
  unfold chkW at h
  by_cases hz : chkF w.cl = 0
  · rw [if_neg (by simp [hz])] at h
    by_cases h6 : 6 < w.qs.length
    · rw [if_pos h6] at h; cases h
    · rw [if_neg h6] at h
      by_cases hq : w.qs.all okQ = true
      · exact ⟨hz, by omega, hq⟩
      · rw [if_neg hq] at h; cases h
  · rw [if_pos hz] at h; exact absurd h hz
def wsF (w : Wld) : List Int := rsL (srcF w.cl ++ w.qs.map Qst.b)
set_option maxHeartbeats 8000000 in
theorem cs_run (w : Wld) (M : Nat) (hw : WB w M) {n : Nat} (hn : M + 4000000 ≤ n) : pureCall (rc pg n) 10 [wD w] = some (.ret (intsD (if chkW w = 0 then wsF w else []))) := by
  obtain ⟨m, rfl, e⟩ := body (pg := pg) (f := 10) (args := [wD w]) (show 0 < n by omega) rfl rfl
  rw [e]
  have c7 := fun h => call_of (h := h) (pg := pg) (f := 7) rfl (by simp [w_canon]) (@cw_run w M hw m (by omega))
  simp only [wD, clsD, qsD] at c7
  by_cases hz : chkW w = 0
  · rw [hz] at c7
    rw [if_pos hz]
    obtain ⟨hz0, h6, _⟩ := chkw_ok hz
    have hc4 : w.cl.length ≤ 400 := (chk_ok hz0).1
    obtain ⟨H, hH⟩ : ∃ H, H = ((((Heap.empty.bump 29).set 1 (some (.cells 25 [clsD w.cl, qsD w.qs]))).bump 29).bump 29) := ⟨_, rfl⟩
    have hHf : H.Fr := by
      rw [hH]
      repeat' first | exact Heap.Fr.empty | apply Heap.Fr.bump | apply Heap.Fr.set
      all_goals simp
    have hH1 : H.get 1 = some (.cells 25 [clsD w.cl, qsD w.qs]) := by rw [hH]; simp
    have hHn : 2 ≤ H.next := by rw [hH]; simp
    obtain ⟨kb, h', Z, r1, hZ, hg, k1, k2, hf', u1, u2⟩ := sources_sh w.cl hz0 hHf (n := m) (by omega)
    have c27 := call_sh (pg := pg) (f := 27) rfl r1
    have hg1 : h'.get 1 = some (.cells 25 [clsD w.cl, qsD w.qs]) := by unfold Heap.get at hH1 ⊢; rw [u2 1 (by omega)]; exact hH1
    simp only [clsD, qsD] at c27 hg1 hH1 hH
    simp [k10, Env.v_ini, wD, clsD, qsD, D.cells, D.one, c7, ← hH, c27, hH1, hg1, ev_loop]
    refine Res.endsAfter (lp_rule 10 (YcI w) _ (yc_round w hc4 h6) w.qs.length m _ (by omega) ⟨_, _, 0, rfl, by omega, by simp [qsD], by simp, by simp, ?_, ?_⟩) ?_
    · rw [List.take_zero, List.map_nil, List.append_nil]
      refine ⟨kb, some w.cl.length, Z, by simp, by simp [hg], by simp <;> omega, ?_, ?_⟩
      · rw [List.length_append] at hZ; omega
      · rw [List.length_append] at hZ
        cases Z with
        | nil => exact .inr ⟨rfl, .inl (by simp at hZ; rw [hZ])⟩
        | cons z2 Z2 => exact .inl ⟨z2, Z2, rfl, by simp at hZ; rw [← hZ]; simp; omega⟩
    · repeat' first | exact hf' | apply Heap.Fr.bump
    · rintro y s ⟨rfl, x, h, i, rfl, hi, _, _, _, ⟨kb, cap, Z, v3, hg, hk, hb, _⟩, hf⟩
      have hil : i = w.qs.length := by omega
      subst hil
      rw [List.take_length] at v3 hg hb
      obtain ⟨S, hS⟩ : ∃ S, S = srcF w.cl ++ w.qs.map Qst.b := ⟨_, rfl⟩
      have hws : wsF w = rsL S := by rw [hS]; rfl
      rw [← hS] at v3 hg hb
      obtain ⟨N, hN⟩ : ∃ N, N = S.length := ⟨_, rfl⟩
      have hN1 : N ≤ 1000 := by omega
      rw [← hN] at v3
      have hF : (N + 1) * (3 * N + 201) ≤ 1001 * 3201 := Nat.mul_le_mul (by omega) (by omega)
      let T : Tl := ⟨Z.map D.int⟩
      have hg' : h.get kb = some (.cells 3 (dl S.toArray)) := by rw [hg, List.map_append]; rfl
      obtain ⟨H1, hH1'⟩ : ∃ H, H = h.bump 29 := ⟨_, rfl⟩
      obtain ⟨h2, r2, sd2⟩ := sort_sh (l := S) (kb := kb) (h := H1) (by rw [hH1']; simpa using hg') (by rw [hH1']; simp; omega) (by rw [hH1']; exact hf.bump _) (N := N) hN.symm (by omega) cap (n := m) (by omega)
      have c28 := call_sh (pg := pg) (f := 28) rfl r2
      obtain ⟨H2, hH2'⟩ : ∃ H, H = h2.bump 29 := ⟨_, rfl⟩
      have sd3 : SD kb (srtL S).toArray H1 H2 := hH2' ▸ sd2.bump 29
      obtain ⟨h3, r3, Z3, hZ3, sd4⟩ := compact_sh (S := srtL S) (c0 := cap) sd3.g (by have := sd3.n; have := sd3.k; omega) sd3.fr (N := N) (by rw [srt_len]; exact hN.symm) (by omega) (n := m) (by omega)
      have c29 := call_sh (pg := pg) (f := 29) rfl r3
      have er : dk (srtL S) N = rsL S := by unfold rsL; rw [hN]
      rw [er] at c29 hZ3 sd4
      have g4 := sd4.g
      have e4 : dl (rsL S ++ Z3).toArray = (rsL S).map D.int ++ (Z3.map D.int ++ Z.map D.int) := by
        show (rsL S ++ Z3).map D.int ++ Z.map D.int = _
        rw [List.map_append, List.append_assoc]
      rw [e4] at g4
      simp [v3, ← hH1', c28, ← hH2', c29, g4]
      rw [hws]
      exact congrArg (D.sl false) (chunk_ints (rsL S))
  · have hz' : (chkW w == 0) = false := by simpa using hz
    simp [k10, Env.v_ini, wD, clsD, qsD, D.cells, D.one, c7, hz', hz, bne, intsD]
end Go.Proofs.YtmncdmpeeibgmaaGreatDoor
/- The sources of a world, by the document; they are the same. -/
namespace Go.Proofs.YtmncdmpeeibgmaaGreatDoor
open Go Go.Em
set_option maxRecDepth 100000
def wsG (l : List Clm) (qs : List Qst) : List Int := qs.foldl (fun m q => insF m q.b) (srcF l)
theorem wsg_snoc (l : List Clm) (qs : List Qst) (q : Qst) : wsG l (qs ++ [q]) = insF (wsG l qs) q.b := by unfold wsG; rw [List.foldl_append]; rfl
theorem wsg_ok : ∀ (qs : List Qst) (m : List Int), Rise m → Rise (qs.foldl (fun m q => insF m q.b) m) ∧ (∀ x, x ∈ qs.foldl (fun m q => insF m q.b) m ↔ x ∈ m ∨ x ∈ qs.map Qst.b) ∧ (qs.foldl (fun m q => insF m q.b) m).length ≤ m.length + qs.length
  | [], m, h => ⟨h, fun x => by simp, by simp⟩
  | q :: qs, m, h => by
    obtain ⟨a, b, c⟩ := wsg_ok qs (insF m q.b) (insF_rise h q.b)
    refine ⟨a, fun x => ?_, ?_⟩
    · rw [List.foldl_cons, b x, insF_mem, List.map_cons, List.mem_cons, or_assoc]
    · have := insF_len m q.b
      rw [List.foldl_cons, List.length_cons]; omega
theorem ws_same (w : Wld) : wsF w = wsG w.cl w.qs := by
  obtain ⟨a, b, _⟩ := wsg_ok w.qs (srcF w.cl) (src_rise w.cl)
  refine rise_one (rs_rise _) a fun x => ?_
  unfold wsF wsG
  rw [rs_mem, b x, List.mem_append]
def YeI (w : Wld) (k : Nat) (s : St) : Prop := ∃ (x : Env 25) (h : Heap) (i : Nat), s = ⟨x.l, h, []⟩ ∧ i + k = w.qs.length ∧ x.v 13 = qsD w.qs ∧ x.v 14 = D.int w.qs.length ∧ x.v 15 = D.int i ∧ x.v 3 = intsD (wsG w.cl (w.qs.take i)) ∧ h.Fr
set_option maxHeartbeats 4000000 in
theorem ye_round (w : Wld) (hcl : w.cl.length ≤ 400) (hqs : w.qs.length ≤ 6) : ∀ n, 1000 ≤ n → ∀ k s, YeI w k s → Res (k11l0.ev ⟨pg, 25, none⟩ (rc pg n) s) (Rnd (YeI w) (fun x s => x = .exit 0 ∧ YeI w 0 s) k) := by
  rintro n hn k s ⟨x, h, i, rfl, hik, v13, v14, v15, v3, hf⟩
  simp only [qsD] at v13
  by_cases hi : i < w.qs.length
  · obtain ⟨q, hl⟩ : ∃ q, w.qs[i] = q := ⟨_, rfl⟩
    have w1 : IntKind.i64.wrap ((i : Int) + 1) = (i : Int) + 1 := wrap_i64 (by omega) (by omega)
    have hfr : ∀ j, h.raw (h.next + j) = none := fun j => hf _ (by omega)
    have htk : wsG w.cl (w.qs.take (i + 1)) = insF (wsG w.cl (w.qs.take i)) q.b := by rw [List.take_add_one, List.getElem?_eq_getElem hi, hl]; exact wsg_snoc _ _ _
    obtain ⟨hr, _, hl2⟩ := wsg_ok (w.qs.take i) (srcF w.cl) (src_rise w.cl)
    have hsl := src_len w.cl
    have htl : (w.qs.take i).length ≤ 6 := by rw [List.length_take]; omega
    obtain ⟨S, hS⟩ : ∃ S, S = wsG w.cl (w.qs.take i) := ⟨_, rfl⟩
    have hr' : Rise S := by rw [hS]; exact hr
    have hl3 : S.length ≤ 406 := by rw [hS]; unfold wsG; omega
    rw [← hS] at v3 htk
    have c31 := fun h => call_of (h := h) (pg := pg) (f := 31) rfl (by simp [intsD, ints_canonL]) (@with_run S hr' (by omega) q.b n (by omega))
    simp only [intsD] at c31 v3
    simp [k11l0, v3, v13, v14, v15, hi, hl, qD, qC, chD, D.cells, D.one, hfr, Nat.add_assoc, w1, c31]
    refine ⟨k - 1, by omega, _, _, i + 1, rfl, by omega, by simp [v13, qsD], by simp [v14], by simp, by simp [htk, intsD], ?_⟩
    repeat' first | exact hf | apply Heap.Fr.bump | apply Heap.Fr.set
    all_goals (simp <;> omega)
  · simp [k11l0, v14, v15, hi]
    exact ⟨_, _, i, rfl, by omega, by simp [v13, qsD], by simp [v14], by simp [v15], by simp [v3], hf.bump _⟩
set_option maxHeartbeats 4000000 in
theorem rcs_run (w : Wld) (M : Nat) (hw : WB w M) {n : Nat} (hn : M + 10000 ≤ n) : pureCall (rc pg n) 11 [wD w] = some (.ret (intsD (if chkW w = 0 then wsF w else []))) := by
  obtain ⟨m, rfl, e⟩ := body (pg := pg) (f := 11) (args := [wD w]) (show 0 < n by omega) rfl rfl
  rw [e]
  have c7 := fun h => call_of (h := h) (pg := pg) (f := 8) rfl (by simp [w_canon]) (@rcw_run w M hw m (by omega))
  simp only [wD, clsD, qsD] at c7
  by_cases hz : chkW w = 0
  · rw [hz] at c7
    rw [if_pos hz]
    obtain ⟨hz0, h6, _⟩ := chkw_ok hz
    have hc4 : w.cl.length ≤ 400 := (chk_ok hz0).1
    have c30 := fun h => call_of (h := h) (pg := pg) (f := 30) rfl (cls_canon w.cl) (@rsources_run w.cl m (by omega))
    rw [if_pos hz0] at c30
    simp only [clsD, intsD] at c30
    simp [k11, Env.v_ini, wD, clsD, qsD, D.cells, D.one, c7, c30, ev_loop]
    refine Res.endsAfter (lp_rule 1000 (YeI w) _ (ye_round w hc4 h6) w.qs.length m _ (by omega) ⟨_, _, 0, rfl, by omega, by simp [qsD], by simp, by simp, by simp [intsD, wsG], ?_⟩) ?_
    · repeat' first | exact Heap.Fr.empty | apply Heap.Fr.bump | apply Heap.Fr.set
      all_goals simp
    · rintro y s ⟨rfl, x, h, i, rfl, hi, _, _, _, v3, hf⟩
      have hil : i = w.qs.length := by omega
      subst hil
      rw [List.take_length, ← ws_same] at v3
      simp only [intsD] at v3
      have hcan := fun h n => each_canon h n _ (ints_canonL (wsF w))
      simp [v3, hcan, intsD]
  · have hz' : (chkW w == 0) = false := by simpa using hz
    simp [k11, Env.v_ini, wD, clsD, qsD, D.cells, D.one, c7, hz', hz, bne, intsD]
end Go.Proofs.YtmncdmpeeibgmaaGreatDoor
