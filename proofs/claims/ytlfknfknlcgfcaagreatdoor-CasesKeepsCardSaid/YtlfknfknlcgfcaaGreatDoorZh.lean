/- The claims behind choices, by the document; what both functions At answer. -/
import Derived.Test.YtlfknfknlcgfcaaGreatDoorZd
import Derived.Test.YtlfknfknlcgfcaaGreatDoorY9
import Derived.Test.YtlfknfknlcgfcaaGreatDoorY9
namespace Go.Proofs.YtlfknfknlcgfcaaGreatDoor
open Go Go.Em
set_option maxRecDepth 100000
def UI (w : Wld) (cs : List Int) (k : Nat) (s : St) : Prop := ∃ (x : Env 32) (h : Heap) (kb i : Nat) (d : D), s = ⟨x.l, h, []⟩ ∧ i + k = cs.length ∧ x.v 2 = .ptr kb 0 ∧ h.get kb = some (.cells 25 [clsD w.cl, qsD w.qs]) ∧ kb < h.next ∧ x.v 12 = intsD cs ∧ x.v 13 = D.int cs.length ∧ x.v 14 = D.int i ∧ x.v 5 = d ∧ AC h d (upN w cs i) ∧ (∀ j, d = .slr kb 0 j 5 none → False) ∧ h.Fr
set_option maxHeartbeats 4000000 in
theorem upto_round (w : Wld) (cs : List Int) (hqs : cs.length ≤ w.qs.length) (hch : (w.qs.zip cs).all okCh = true) (hN : claimsF w ≤ 400) (hl : cs.length ≤ 1000) : ∀ n, 10 ≤ n → ∀ k s, UI w cs k s → Res (k62l0.ev ⟨pg, 32, none⟩ (rc pg n) s) (Rnd (UI w cs) (fun x s => x = .exit 0 ∧ UI w cs 0 s) k) := by
  rintro n hn k s ⟨x, h, kb, i, d, rfl, hik, v2, hg, hk, v12, v13, v14, v5, hd, hkd, hf⟩
  simp only [qsD, clsD] at hg
  simp only [intsD] at v12
  by_cases hi : i < cs.length
  · have hiq : i < w.qs.length := by omega
    obtain ⟨q, hq⟩ : ∃ q, w.qs[i] = q := ⟨_, rfl⟩
    obtain ⟨c, hc⟩ : ∃ c, cs[i] = c := ⟨_, rfl⟩
    have hzm : (q, c) ∈ w.qs.zip cs := by rw [← hq, ← hc, List.mem_iff_getElem]; exact ⟨i, by rw [List.length_zip]; omega, by simp⟩
    have hok := List.all_eq_true.1 hch _ hzm
    unfold okCh at hok
    simp only [inR_eq, Bool.and_eq_true, decide_eq_true_eq] at hok
    obtain ⟨j, rfl⟩ : ∃ j : Nat, c = j := ⟨c.toNat, by omega⟩
    have hj : j < q.ch.length := by omega
    obtain ⟨p, hp⟩ : ∃ p, q.ch[j] = p := ⟨_, rfl⟩
    have hup := up_succ (w := w) (cs := cs) hiq hi
    have hpk : pickC (q, (j : Int)) = p := by unfold pickC; simp [hj, hp]
    rw [hq, hc, hpk] at hup
    have hle := up_le w cs (i + 1)
    rw [hup, List.length_append] at hle
    obtain ⟨U, hU⟩ : ∃ U, U = upN w cs i := ⟨_, rfl⟩
    rw [← hU] at hup hle hd
    have w1 : IntKind.i64.wrap ((i : Int) + 1) = (i : Int) + 1 := wrap_i64 (by omega) (by omega)
    have hfr : ∀ j, h.raw (h.next + j) = none := fun j => hf _ (by omega)
    have h2 := cls_cells p
    have h3 := cls_one p
    have hall : ∀ x : Clm, (D.cells (clD x)).length = 5 := fun _ => rfl
    have ne1 : ∀ j, (kb = h.next + j) = False := fun j => by simp; omega
    by_cases hpe : p = []
    · subst hpe
      rw [List.append_nil] at hup
      have hz : ∀ (t : Nat) (hh : Heap), apK t 96 5 40 hh d (some (0, [])) = some (d, hh) := fun t hh => by
        rcases hd with ⟨_, rfl⟩ | ⟨_, k, rfl, _⟩ | ⟨k, rfl, _⟩
        · exact apK_zero_nil
        · exact apK_zero_slr ..
        · exact apK_zero_slr ..
      simp [k62l0, v2, v5, v12, v13, v14, hg, hi, hiq, hq, hc, hj, hp, qD, qC, chD, clsD, D.cells, w1, Nat.add_assoc, hz]
      refine ⟨k - 1, by omega, _, _, kb, i + 1, d, rfl, by omega, by simp [v2], by simp [hg, qsD, clsD], by simp; omega, by simp [v12, intsD], by simp [v13], by simp, by simp, ?_, hkd, by repeat' first | exact hf | apply Heap.Fr.bump⟩
      rw [hup]
      exact hd.keep (by simp <;> omega) fun q hq => by simp
    · have hlp : p.length ≠ 0 := fun h => hpe (List.eq_nil_of_length_eq_zero h)
      have ne2 : ∀ j, (h.next + j = kb) = False := fun j => by simp; omega
      rcases hd with ⟨hU0, rfl⟩ | ⟨hU0, kk, rfl, hg2, hkk⟩ | ⟨kk, rfl, hg2, hkk⟩
      · subst hU0
        rw [List.nil_append] at hup
        have hr : p.length * 40 ≤ room ∧ p.length ≤ maxLen := ⟨by unfold room; omega, by unfold maxLen; omega⟩
        simp [k62l0, v2, v5, v12, v13, v14, hg, hi, hiq, hq, hc, hj, hp, qD, qC, chD, clsD, cells_i, cells_s, cells_a, w1, Nat.add_assoc, hall, h2, h3, hlp, apK_some, hr, hfr]
        refine ⟨k - 1, by omega, _, _, kb, i + 1, .slr (h.next + 93) 0 p.length 5 none, rfl, by omega, by simp [v2], by simp [hg, qsD, clsD, ne1], by simp; omega, by simp [v12, intsD], by simp [v13], by simp, by simp, .inr (.inr ⟨h.next + 93, by simp [hup], by simp [hup], by simp <;> omega⟩), fun j hj => by simp at hj; omega, ?_⟩
        repeat' first | exact hf | apply Heap.Fr.bump | apply Heap.Fr.set
        all_goals (simp <;> omega)
      · subst hU0
        rw [List.nil_append] at hup
        have z := fun t hh news ty cs => appS_zero5 (t := t) (h := hh) (m := p.length) (news := news) (k := kk) (ty := ty) (cs := cs) (by omega) (by unfold room; omega) (by unfold maxLen; omega)
        simp [k62l0, v2, v5, v12, v13, v14, hg, hi, hiq, hq, hc, hj, hp, qD, qC, chD, clsD, cells_i, cells_s, cells_a, w1, Nat.add_assoc, hall, h2, h3, hlp, apK_some, hg2, z, hfr]
        refine ⟨k - 1, by omega, _, _, kb, i + 1, .slr (h.next + 93) 0 p.length 5 none, rfl, by omega, by simp [v2], by simp [hg, qsD, clsD, ne1], by simp; omega, by simp [v12, intsD], by simp [v13], by simp, by simp, .inr (.inr ⟨h.next + 93, by simp [hup], by simp [hup], by simp <;> omega⟩), fun j hj => by simp at hj; omega, ?_⟩
        repeat' first | exact hf | apply Heap.Fr.bump | apply Heap.Fr.set
        all_goals (simp <;> omega)
      · have nek : (kb = kk) = False := by
          simp; intro e; exact hkd _ (by rw [e])
        have ne3 : ∀ j, (h.next + j = kk) = False := fun j => by simp; omega
        have happ := fun t hh news => appS_none (t := t) (et := 96) (sz := 5) (bytes := 40) (h := hh) (m := p.length) (news := news) (k := kk) (n := U.length) (cs := U.flatMap clC) (cells_len U) (by omega) (by unfold room; omega) (by unfold maxLen; omega)
        simp [k62l0, v2, v5, v12, v13, v14, hg, hi, hiq, hq, hc, hj, hp, qD, qC, chD, clsD, cells_i, cells_s, cells_a, w1, Nat.add_assoc, hall, h2, h3, hlp, apK_some, hg2, happ, hfr, ne3]
        refine ⟨k - 1, by omega, _, _, kb, i + 1, .slr (h.next + 93) 0 (U.length + p.length) 5 none, rfl, by omega, by simp [v2], by simp [hg, qsD, clsD, ne1, nek], by simp; omega, by simp [v12, intsD], by simp [v13], by simp, by simp, .inr (.inr ⟨h.next + 93, by simp [hup], by simp [hup], by simp <;> omega⟩), fun j hj => by simp at hj; omega, ?_⟩
        repeat' first | exact hf | apply Heap.Fr.bump | apply Heap.Fr.set
        all_goals (simp <;> omega)
  · simp [k62l0, v13, v14, hi]
    exact ⟨_, _, kb, i, d, rfl, by omega, by simp [v2], by simp [hg, qsD, clsD], by simp; omega, by simp [v12, intsD], by simp [v13], by simp [v14], by simp [v5], hd.keep (by simp) (by simp), hkd, hf.bump _⟩
set_option maxHeartbeats 4000000 in
theorem upto_run {w : Wld} {cs : List Int} (hc : Chs w cs) {n : Nat} (hn : cs.length + 20 ≤ n) : pureCall (rc pg n) 62 [wD w, intsD cs] = some (.ret (clsD (upF w cs))) := by
  obtain ⟨m, rfl, e⟩ := body (pg := pg) (f := 62) (args := [wD w, intsD cs]) (show 0 < n by omega) rfl rfl
  rw [e]
  have hcl := hc.cl
  have h2 := cls_cells w.cl
  have h3 := cls_one w.cl
  have hall : ∀ x : Clm, (D.cells (clD x)).length = 5 := fun _ => rfl
  by_cases hl : w.cl = []
  · have hu0 := up_zero w cs
    rw [hl] at hu0
    simp [k62, Env.v_ini, wD, hl, qsD, clsD, intsD, cells_a, one_s, zerosD, apK_zero_slr, ev_loop]
    refine Res.endsAfter (lp_rule 10 (UI w cs) _ (upto_round w cs hc.le hc.ok hc.c4 hc.l6) cs.length m _ (by omega) ⟨_, _, 2, 0, .slr 40 0 0 5 (some 0), rfl, by omega, by simp, by simp [qsD, clsD, hl], by simp, by simp [intsD], by simp, by simp, by simp, .inr (.inl ⟨hu0, 40, rfl, by simp, by simp⟩), fun j hj => by simp at hj, ?_⟩) ?_
    · repeat' first | exact Heap.Fr.empty | apply Heap.Fr.bump | apply Heap.Fr.set
      all_goals simp
    · rintro y s ⟨rfl, x, h, kb, i, d, rfl, hi, _, _, _, _, _, _, v5, hd, _, _⟩
      have hil : i = cs.length := by omega
      subst hil
      rw [up_all (Nat.le_refl _)] at hd
      obtain ⟨ks, hz⟩ := AC.frz (hd.keep (h' := (h.bump 32)) (by simp) (by simp))
      simp only [clsD] at hz
      simp [v5]
      exact ⟨_, hz⟩
  · have hlen : w.cl.length ≠ 0 := fun h => hl (List.eq_nil_of_length_eq_zero h)
    have z := fun t hh news k ty cs => appS_zero5 (t := t) (h := hh) (m := w.cl.length) (news := news) (k := k) (ty := ty) (cs := cs) (by omega) (by unfold room; omega) (by unfold maxLen; omega)
    simp [k62, Env.v_ini, wD, qsD, clsD, intsD, cells_a, one_s, zerosD, hall, h2, h3, hlen, apK_some, z, ev_loop]
    refine Res.endsAfter (lp_rule 10 (UI w cs) _ (upto_round w cs hc.le hc.ok hc.c4 hc.l6) cs.length m _ (by omega) ⟨_, _, 2, 0, .slr 43 0 w.cl.length 5 none, rfl, by omega, by simp, by simp [qsD, clsD], by simp, by simp [intsD], by simp, by simp, by simp, .inr (.inr ⟨43, by rw [up_zero], by simp [up_zero], by simp⟩), fun j hj => by simp at hj, ?_⟩) ?_
    · repeat' first | exact Heap.Fr.empty | apply Heap.Fr.bump | apply Heap.Fr.set
      all_goals simp
    · rintro y s ⟨rfl, x, h, kb, i, d, rfl, hi, _, _, _, _, _, _, v5, hd, _, _⟩
      have hil : i = cs.length := by omega
      subst hil
      rw [up_all (Nat.le_refl _)] at hd
      obtain ⟨ks, hz⟩ := AC.frz (hd.keep (h' := (h.bump 32)) (by simp) (by simp))
      simp only [clsD] at hz
      simp [v5]
      exact ⟨_, hz⟩
theorem chkw_all {w : Wld} (h : chkW w = 0) : chkF w.cl = 0 ∧ w.qs.length ≤ 6 ∧ w.qs.all okQ = true ∧ leavesF w.qs ≤ 3000 ∧ claimsF w ≤ 400 ∧ (marksF (allF w)).length ≤ 64 := by
  unfold chkW at h
  split at h
  · rename_i h1; exact absurd h h1
  · rename_i h1
    split at h
    · cases h
    · rename_i h2
      split at h
      · rename_i h3
        split at h
        · cases h
        · rename_i h4
          refine ⟨by simpa using h1, by omega, h3, by omega, by omega, by omega⟩
      · cases h
end Go.Proofs.YtlfknfknlcgfcaaGreatDoor
